/- Sorting, pure: quicksort (partition, heaps, what is done and what is not). -/
import Derived.Test.YtgjlhdggllakbaaGreatDoorQTopCapsA
import Derived.Test.YtgjlhdggllakbaaGreatDoorVmTab
import Derived.Test.YtgjlhdggllakbaaGreatDoorVmRec
import Derived.KernelRfl
set_option linter.unusedVariables false
set_option linter.unusedSimpArgs false
set_option linter.unusedSectionVars false
namespace Go.Proofs.YtgjlhdggllakbaaGreatDoor.Vm
open Go
set_option maxRecDepth 100000
attribute [-simp] List.getD_eq_getElem?_getD
section
variable {α:Type}[Inhabited α]{cf:α->α->Int}
omit [Inhabited α] in
theorem Ordr.lt (ho:Ordr cf){x y:α}(h:cf x y<0):leC cf x y:=by
 rcases ho.tot x y with h1 | h1
 ·exact h1
 ·exact absurd h h1
structure OutR (cf:α->α->Int)(a0 b0 a b:Nat)(l:List α):Prop where
 rng:a0<=a/\a<=b/\b<=b0
 le:∀p q,a0<=p->p<q->q<b0->(p<a\/b<=q)->leC cf (l.getD p default) (l.getD q default)
theorem OutR.start {a b:Nat}{l:List α}(h:a<=b):OutR cf a b a b l:=⟨by omega,fun p q h1 h2 h3 h4=>by omega⟩
theorem OutR.sort {a0 b0 a b:Nat}{l:List α}(h:OutR cf a0 b0 a b l)(hs:br cf a b l):br cf a0 b0 l:=fun p q h1 h2 h3=>by
 by_cases e:p<a\/b<=q
 ·exact h.le p q h1 h2 h3 e
 ·exact hs p q (by omega) h2 (by omega)
theorem OutR.perm {a0 b0 a b:Nat}{l l':List α}(h:OutR cf a0 b0 a b l)(hp:PermR a b l l')(hb:b0<=l.length):OutR cf a0 b0 a b l':=by
 have hr:=h.rng
 refine ⟨hr,fun p q h1 h2 h3 h4 => ?_⟩
 by_cases e1:a<=p/\p<b
 ·obtain ⟨p',hp',ep⟩:=hp.mem (by omega) e1
  rw [ep,hp.out q (by omega)]
  exact h.le p' q (by omega) (by omega) h3 (by omega)
 ·rw [hp.out p (by omega)]
  by_cases e2:a<=q/\q<b
  ·obtain ⟨q',hq',eq⟩:=hp.mem (by omega) e2
   rw [eq]
   exact h.le p q' h1 (by omega) (by omega) (by omega)
  ·rw [hp.out q (by omega)]
   exact h.le p q h1 h2 h3 h4
def GdR (cf:α->α->Int)(a b:Nat)(l:List α):Prop:=0<a->∀k,a<=k->k<b->leC cf (l.getD (a-1) default) (l.getD k default)
theorem GdR.perm {a b x y:Nat}{l l':List α}(h:GdR cf a b l)(hp:PermR x y l l')(hx:a<=x)(hy:y<=b)(hb:b<=l.length):GdR cf a b l':=fun h0 k h1 h2=>by
 rw [hp.out (a-1) (by omega)]
 by_cases e:x<=k/\k<y
 ·obtain ⟨k',hk',ek⟩:=hp.mem (by omega) e
  rw [ek];exact h h0 k' (by omega) (by omega)
 ·rw [hp.out k (by omega)];exact h h0 k h1 h2
theorem GdR.less {a b b':Nat}{l:List α}(h:GdR cf a b l)(hb:b'<=b):GdR cf a b' l:=fun h0 k h1 h2=>h h0 k h1 (by omega)
theorem OutR.guard {a0 b0 a b:Nat}{l:List α}(h:OutR cf a0 b0 a b l)(ha:a0<a):GdR cf a b l:=fun h0 k h1 h2=>h.le (a-1) k (by omega) (by omega) (by have:=h.rng;omega) (by omega)
structure PartR (cf:α->α->Int)(a b m:Nat)(l:List α):Prop where
 rng:a<=m/\m<b
 lo:∀k,a<=k->k<m->leC cf (l.getD k default) (l.getD m default)
 hi:∀k,m<k->k<b->leC cf (l.getD m default) (l.getD k default)
theorem PartR.permL {a b m:Nat}{l l':List α}(h:PartR cf a b m l)(hp:PermR a m l l')(hb:b<=l.length):PartR cf a b m l':=by
 have hr:=h.rng
 refine ⟨hr,fun k h1 h2 => ?_,fun k h1 h2 => ?_⟩
 ·obtain ⟨k',hk',ek⟩:=hp.mem (by omega) ⟨h1,h2⟩
  rw [ek,hp.out m (by omega)];exact h.lo k' (by omega) (by omega)
 ·rw [hp.out m (by omega),hp.out k (by omega)];exact h.hi k h1 h2
theorem PartR.permH {a b m:Nat}{l l':List α}(h:PartR cf a b m l)(hp:PermR (m+1) b l l')(hb:b<=l.length):PartR cf a b m l':=by
 have hr:=h.rng
 refine ⟨hr,fun k h1 h2 => ?_,fun k h1 h2 => ?_⟩
 ·rw [hp.out m (by omega),hp.out k (by omega)];exact h.lo k h1 h2
 ·obtain ⟨k',hk',ek⟩:=hp.mem (by omega) ⟨h1,h2⟩
  rw [ek,hp.out m (by omega)];exact h.hi k' (by omega) (by omega)
theorem OutR.left (ho:Ordr cf) {a0 b0 a b m:Nat} {l l':List α} (h:OutR cf a0 b0 a b l) (hm:PartR cf a b m l) (hp:PermR a m l l') (hs:br cf a m l') (hb:b0≤l.length):OutR cf a0 b0 (m+1) b l':=by
 have hr:=h.rng
 have hr2:=hm.rng
 have h':=h.perm (hp.wide (Nat.le_refl _) (by omega)) hb
 have hm':=hm.permL hp (by omega)
 refine ⟨by omega,fun p q h1 h2 h3 h4 => ?_⟩
 by_cases e:p<a\/b<=q
 ·exact h'.le p q h1 h2 h3 e
 ·by_cases e1:q<m
  ·exact hs p q (by omega) h2 e1
  ·by_cases e2:q=m
   ·subst e2;exact hm'.lo p (by omega) h2
   ·by_cases e3:p=m
    ·subst e3;exact hm'.hi q h2 (by omega)
    ·exact ho.tr _ _ _ (hm'.lo p (by omega) (by omega)) (hm'.hi q (by omega) (by omega))
theorem OutR.right (ho:Ordr cf) {a0 b0 a b m:Nat} {l l':List α} (h:OutR cf a0 b0 a b l) (hm:PartR cf a b m l) (hp:PermR (m+1) b l l') (hs:br cf (m+1) b l') (hb:b0≤l.length):OutR cf a0 b0 a m l':=by
 have hr:=h.rng
 have hr2:=hm.rng
 have h':=h.perm (hp.wide (by omega) (Nat.le_refl _)) hb
 have hm':=hm.permH hp (by omega)
 refine ⟨by omega,fun p q h1 h2 h3 h4 => ?_⟩
 by_cases e:p<a\/b<=q
 ·exact h'.le p q h1 h2 h3 e
 ·by_cases e1:m<p
  ·exact hs p q (by omega) h2 (by omega)
  ·by_cases e2:q=m
   ·subst e2;exact hm'.lo p (by omega) h2
   ·by_cases e3:p=m
    ·subst e3;exact hm'.hi q h2 (by omega)
    ·exact ho.tr _ _ _ (hm'.lo p (by omega) (by omega)) (hm'.hi q (by omega) (by omega))
theorem OutR.equal {a0 b0 a b m:Nat}{l:List α}(h:OutR cf a0 b0 a b l)(hm:a<=m/\m<=b)(he:∀p q,a<=p->p<m->p<q->q<b->leC cf (l.getD p default) (l.getD q default)):OutR cf a0 b0 m b l:=by
 have hr:=h.rng
 refine ⟨by omega,fun p q h1 h2 h3 h4 => ?_⟩
 by_cases e:p<a\/b<=q
 ·exact h.le p q h1 h2 h3 e
 ·exact he p q (by omega) (by omega) h2 (by omega)
structure PtI (cf:α->α->Int)(a b i j:Nat)(l:List α):Prop where
 rng:a+1<=i/\i<=j+1/\j<b
 lo:∀k,a+1<=k->k<i->cf (l.getD k default) (l.getD a default)<0
 hi:∀k,j<k->k<b->leC cf (l.getD a default) (l.getD k default)
theorem PtI.start {a b:Nat}{l:List α}(h:a+1<=b):PtI cf a b (a+1) (b-1) l:=⟨by omega,fun k h1 h2=>by omega,fun k h1 h2=>by omega⟩
theorem PtI.up {a b i j:Nat}{l:List α}(h:PtI cf a b i j l)(hi:i<=j)(hc:cf (l.getD i default) (l.getD a default)<0):PtI cf a b (i+1) j l:=by
 have hr:=h.rng
 refine ⟨by omega,fun k h1 h2 => ?_,h.hi⟩
 by_cases e:k=i
 ·subst e;exact hc
 ·exact h.lo k h1 (by omega)
theorem PtI.down {a b i j:Nat}{l:List α}(h:PtI cf a b i j l)(hi:i<=j)(hc:¬cf (l.getD j default) (l.getD a default)<0):PtI cf a b i (j-1) l:=by
 have hr:=h.rng
 refine ⟨by omega,h.lo,fun k h1 h2 => ?_⟩
 by_cases e:k=j
 ·subst e;exact hc
 ·exact h.hi k (by omega) h2
theorem PtI.swap (ho:Ordr cf){a b i j:Nat}{l:List α}(h:PtI cf a b i j l)(hi:i<=j)(hl:b<=l.length)(h1:¬cf (l.getD i default) (l.getD a default)<0)(h2:cf (l.getD j default) (l.getD a default)<0):PtI cf a b (i+1) (j-1) (swp l i j):=by
 have hr:=h.rng
 have hne:i≠j:=fun e=>by subst e;exact h1 h2
 have g:∀k,(swp l i j).getD k default=if k=j then l.getD i default else if k=i then l.getD j default else l.getD k default:=fun k=>d9 (by omega) (by omega)
 have ga:(swp l i j).getD a default=l.getD a default:=by rw [g,if_neg (by omega),if_neg (by omega)]
 refine ⟨by omega,fun k k1 k2 => ?_,fun k k1 k2 => ?_⟩
 ·rw [ga,g,if_neg (by omega)]
  by_cases e:k=i
  ·rw [if_pos e];exact h2
  ·rw [if_neg e];exact h.lo k k1 (by omega)
 ·rw [ga,g]
  by_cases e:k=j
  ·rw [if_pos e];exact h1
  ·rw [if_neg e,if_neg (by omega)];exact h.hi k (by omega) k2
theorem PtI.done (ho:Ordr cf){a b i j:Nat}{l:List α}(h:PtI cf a b i j l)(hi:¬i<=j)(hl:b<=l.length):PartR cf a b j (swp l j a):=by
 have hr:=h.rng
 have g:∀k,(swp l j a).getD k default=if k=a then l.getD j default else if k=j then l.getD a default else l.getD k default:=fun k=>d9 (by omega) (by omega)
 have gj:(swp l j a).getD j default=l.getD a default:=by
  rw [g]
  by_cases e:j=a
  ·rw [if_pos e,e]
  ·rw [if_neg e,if_pos rfl]
 refine ⟨by omega,fun k k1 k2 => ?_,fun k k1 k2 => ?_⟩
 ·rw [gj,g]
  by_cases e:k=a
  ·rw [if_pos e];exact ho.lt (h.lo j (by omega) (by omega))
  ·rw [if_neg e,if_neg (by omega)];exact ho.lt (h.lo k (by omega) (by omega))
 ·rw [gj,g,if_neg (by omega),if_neg (by omega)];exact h.hi k (by omega) k2
structure PeI (cf:α->α->Int)(a b i j:Nat)(l:List α):Prop where
 rng:a+1<=i/\i<=j+1/\j<b
 lo:∀k,a+1<=k->k<i->leC cf (l.getD k default) (l.getD a default)
 mn:∀k,a<=k->k<b->leC cf (l.getD a default) (l.getD k default)
theorem PeI.start {a b:Nat}{l:List α}(h:a+1<=b)(mn:∀k,a<=k->k<b->leC cf (l.getD a default) (l.getD k default)):PeI cf a b (a+1) (b-1) l:=⟨by omega,fun k h1 h2=>by omega,mn⟩
theorem PeI.up {a b i j:Nat}{l:List α}(h:PeI cf a b i j l)(hi:i<=j)(hc:¬cf (l.getD a default) (l.getD i default)<0):PeI cf a b (i+1) j l:=by
 have hr:=h.rng
 refine ⟨by omega,fun k h1 h2 => ?_,h.mn⟩
 by_cases e:k=i
 ·subst e;exact hc
 ·exact h.lo k h1 (by omega)
theorem PeI.down {a b i j:Nat}{l:List α}(h:PeI cf a b i j l)(hi:i<=j):PeI cf a b i (j-1) l:=by
 have hr:=h.rng
 exact ⟨by omega,h.lo,h.mn⟩
theorem PeI.swap (ho:Ordr cf){a b i j:Nat}{l:List α}(h:PeI cf a b i j l)(hi:i<=j)(hl:b<=l.length)(h1:cf (l.getD a default) (l.getD i default)<0)(h2:¬cf (l.getD a default) (l.getD j default)<0):PeI cf a b (i+1) (j-1) (swp l i j):=by
 have hr:=h.rng
 have hne:i≠j:=fun e=>by subst e;exact h2 h1
 have g:∀k,(swp l i j).getD k default=if k=j then l.getD i default else if k=i then l.getD j default else l.getD k default:=fun k=>d9 (by omega) (by omega)
 have ga:(swp l i j).getD a default=l.getD a default:=by rw [g,if_neg (by omega),if_neg (by omega)]
 refine ⟨by omega,fun k k1 k2 => ?_,fun k k1 k2 => ?_⟩
 ·rw [ga,g,if_neg (by omega)]
  by_cases e:k=i
  ·rw [if_pos e];exact h2
  ·rw [if_neg e];exact h.lo k k1 (by omega)
 ·rw [ga,g]
  by_cases e:k=j
  ·rw [if_pos e];exact h.mn i (by omega) (by omega)
  ·rw [if_neg e]
   by_cases e2:k=i
   ·rw [if_pos e2];exact h.mn j (by omega) (by omega)
   ·rw [if_neg e2];exact h.mn k k1 k2
theorem PeI.done (ho:Ordr cf){a b i j:Nat}{l:List α}(h:PeI cf a b i j l):∀p q,a<=p->p<i->p<q->q<b->leC cf (l.getD p default) (l.getD q default):=fun p q h1 h2 h3 h4=>by
 by_cases e:p=a
 ·subst e;exact h.mn q (by omega) h4
 ·exact ho.tr _ _ _ (h.lo p (by omega) h2) (h.mn q (by omega) h4)
def HpR (cf:α->α->Int)(f lo hi:Nat)(l:List α):Prop:=∀c,0<c->c<hi->lo<=(c-1) / 2->leC cf (l.getD (f+c) default) (l.getD (f+(c-1) / 2) default)
structure SfI (cf:α->α->Int)(f lo hi r:Nat)(l:List α):Prop where
 rng:lo<=r
 up:∀c,0<c->c<hi->lo<=(c-1) / 2->(c-1) / 2≠r->leC cf (l.getD (f+c) default) (l.getD (f+(c-1) / 2) default)
 thru:∀c,0<c->c<hi->(c-1) / 2=r->0<r->lo<=(r-1) / 2->leC cf (l.getD (f+c) default) (l.getD (f+(r-1) / 2) default)
theorem SfI.start {f lo hi:Nat}{l:List α}(h:HpR cf f (lo+1) hi l):SfI cf f lo hi lo l :=
 ⟨Nat.le_refl _,fun c h1 h2 h3 h4=>h c h1 h2 (by omega),fun c h1 h2 h3 h4 h5=>by omega⟩
theorem SfI.end1 {f lo hi r:Nat}{l:List α}(h:SfI cf f lo hi r l)(hc:hi<=2*r+1):HpR cf f lo hi l:=fun c h1 h2 h3=>h.up c h1 h2 h3 (by omega)
structure ChR (cf:α->α->Int)(f hi r c:Nat)(l:List α):Prop where
 rng:c<hi/\0<c/\(c-1) / 2=r
 mx:∀d,0<d->d<hi->(d-1) / 2=r->leC cf (l.getD (f+d) default) (l.getD (f+c) default)
theorem ChR.one (ho:Ordr cf){f hi r:Nat}{l:List α}(h:2*r+1<hi)(hc:¬(2*r+1+1<hi/\cf (l.getD (f+(2*r+1)) default) (l.getD (f+(2*r+1+1)) default)<0)):ChR cf f hi r (2*r+1) l:=by
 refine ⟨by omega,fun d h1 h2 h3 => ?_⟩
 have:d=2*r+1\/d=2*r+2:=by omega
 rcases this with e | e
 ·rw [e];exact ho.rf _
 ·subst e
  intro hx
  exact hc ⟨h2,hx⟩
theorem ChR.two (ho:Ordr cf){f hi r:Nat}{l:List α}(h:2*r+1+1<hi)(hc:cf (l.getD (f+(2*r+1)) default) (l.getD (f+(2*r+1+1)) default)<0):ChR cf f hi r (2*r+1+1) l:=by
 refine ⟨by omega,fun d h1 h2 h3 => ?_⟩
 have:d=2*r+1\/d=2*r+1+1:=by omega
 rcases this with e | e
 ·rw [e];exact ho.lt hc
 ·rw [e];exact ho.rf _
theorem SfI.end2 (ho:Ordr cf){f lo hi r c:Nat}{l:List α}(h:SfI cf f lo hi r l)(hc:ChR cf f hi r c l)(hn:¬cf (l.getD (f+r) default) (l.getD (f+c) default)<0):HpR cf f lo hi l:=fun d h1 h2 h3=>by
 by_cases e:(d-1) / 2=r
 ·rw [e];exact ho.tr _ _ _ (hc.mx d h1 h2 e) hn
 ·exact h.up d h1 h2 h3 e
theorem SfI.step (ho:Ordr cf) {f lo hi r c:Nat} {l:List α} (h:SfI cf f lo hi r l) (hc:ChR cf f hi r c l) (hl:f+hi≤l.length) (hn:cf (l.getD (f+r) default) (l.getD (f+c) default)<0):SfI cf f lo hi c (swp l (f+r) (f+c)):=by
 have hr:=h.rng
 have hcr:=hc.rng
 have hrc:r<c:=by omega
 have g:∀k,(swp l (f+r) (f+c)).getD (f+k) default=if k=c then l.getD (f+r) default else if k=r then l.getD (f+c) default else l.getD (f+k) default:=fun k=>by
  rw [d9 (by omega) (by omega)]
  by_cases e1:k=c
  ·rw [if_pos (by omega),if_pos e1]
  ·rw [if_neg (by omega),if_neg e1]
   by_cases e2:k=r
   ·rw [if_pos (by omega),if_pos e2]
   ·rw [if_neg (by omega),if_neg e2]
 refine ⟨by omega,fun d h1 h2 h3 h4 => ?_,fun d h1 h2 h3 h4 h5 => ?_⟩
 ·rw [g,g ((d-1) / 2),if_neg h4]
  by_cases e:(d-1) / 2=r
  ·rw [if_pos e]
   by_cases e1:d=c
   ·rw [if_pos e1];exact ho.lt hn
   ·rw [if_neg e1,if_neg (by omega)];exact hc.mx d h1 h2 e
  ·rw [if_neg e,if_neg (show ¬d=c from fun e'=>e (by rw [e'];exact hcr.2.2))]
   by_cases e1:d=r
   ·rw [if_pos e1]
    have:=h.thru c hcr.2.1 hcr.1 hcr.2.2 (by omega) (by rw [←e1];exact h3)
    rw [e1];exact this
   ·rw [if_neg e1];exact h.up d h1 h2 h3 e
 ·rw [g,g ((c-1) / 2),if_neg (by omega),if_neg (by omega),if_neg (by omega),if_pos hcr.2.2]
  have:=h.up d h1 h2 (by omega) (by omega)
  rw [h3] at this;exact this
theorem HpR.top (ho:Ordr cf){f n:Nat}{l:List α}(h:HpR cf f 0 n l):∀k,k<n->leC cf (l.getD (f+k) default) (l.getD f default):=by
 intro k
 induction k using Nat.strongRecOn with
 | ind k ih =>
   intro hk
   by_cases e:k=0
   ·subst e;exact ho.rf _
   ·exact ho.tr _ _ _ (h k (by omega) hk (Nat.zero_le _)) (ih ((k-1) / 2) (by omega) (by omega))
theorem HpR.none {f n:Nat}{l:List α}:HpR cf f ((n-1) / 2+1) n l:=fun c h1 h2 h3=>by omega
theorem HpR.pop (ho:Ordr cf){f n b:Nat}{l:List α}(h:HpR cf f 0 (n+1) l)(hO:OutR cf f b f (f+(n+1)) l)(hl:b<=l.length):HpR cf f 1 n (swp l f (f+n))/\OutR cf f b f (f+n) (swp l f (f+n)):=by
 have hr:=hO.rng
 have g:∀k,(swp l f (f+n)).getD k default=if k=f+n then l.getD f default else if k=f then l.getD (f+n) default else l.getD k default:=fun k=>d9 (by omega) (by omega)
 have hp:PermR f (f+(n+1)) l (swp l f (f+n)):=aY ⟨by omega,by omega⟩ ⟨by omega,by omega⟩ (by omega)
 have hO':=hO.perm hp hl
 refine ⟨fun c h1 h2 h3 => ?_,by omega,fun p q h1 h2 h3 h4 => ?_⟩
 ·rw [g,g,if_neg (by omega),if_neg (by omega),if_neg (by omega),if_neg (by omega)]
  exact h c h1 (by omega) (by omega)
 ·by_cases e:q=f+n
  ·subst e
   have:(swp l f (f+n)).getD (f+n) default=l.getD f default:=by rw [g,if_pos rfl]
   rw [this]
   obtain ⟨p',hp',ep⟩:=hp.mem (by omega) (k:=p) ⟨h1,by omega⟩
   rw [ep]
   have:=h.top ho (p'-f) (by omega)
   rw [show f+(p'-f)=p' by omega] at this
   exact this
  ·exact hO'.le p q h1 h2 h3 (by omega)
theorem GdR.least (ho:Ordr cf){a b v:Nat}{l:List α}(h:GdR cf a b l)(ha:0<a)(hv:¬cf (l.getD (a-1) default) (l.getD v default)<0):∀k,a<=k->k<b->leC cf (l.getD v default) (l.getD k default):=fun k h1 h2=>ho.tr _ _ _ hv (h ha k h1 h2)
theorem sN {a b v:Nat}{l:List α}(ha:a<=v/\v<b)(hb:b<=l.length)(h:∀k,a<=k->k<b->leC cf (l.getD v default) (l.getD k default)):∀k,a<=k->k<b->leC cf ((swp l a v).getD a default) ((swp l a v).getD k default):=fun k h1 h2=>by
 have g:∀k,(swp l a v).getD k default=if k=v then l.getD a default else if k=a then l.getD v default else l.getD k default:=fun k=>d9 (by omega) (by omega)
 have ga:(swp l a v).getD a default=l.getD v default:=by
  rw [g]
  by_cases e:a=v
  ·rw [if_pos e,e]
  ·rw [if_neg e,if_pos rfl]
 rw [ga,g]
 repeat' split
 ·exact h a (by omega) (by omega)
 ·exact h v (by omega) (by omega)
 ·exact h k h1 h2
theorem br.one {a i:Nat}{l:List α}(h:i<=a+1):br cf a i l:=fun p q h1 h2 h3=>by omega
theorem br.next (ho:Ordr cf){a i:Nat}{l:List α}(h:br cf a i l)(hi:a<i)(hc:¬cf (l.getD i default) (l.getD (i-1) default)<0):br cf a (i+1) l:=fun p q h1 h2 h3=>by
 by_cases e:q=i
 ·subst e
  by_cases e2:p=q-1
  ·subst e2;exact hc
  ·exact ho.tr _ _ _ (h p (q-1) h1 (by omega) (by omega)) hc
 ·exact h p q h1 h2 (by omega)
theorem gJ.last {a i:Nat}{l l':List α}(h:br cf a (i-1) l'):gJ cf a (i-1) (i-1) l':=gJ.start h
end
theorem b9 {T:Tbl}{lim:Nat}{body:VCode}{Q:VExit->St->Prop}{s:St}(id:Nat)(P:Fr->Lo->Hp->Prop)(h:bx T lim (.loop body) (fun e s=>e=.exit id/\P s.fr s.L s.H) s)(hQ:∀fr L H,P fr L H->Q (.exit id) ⟨fr,L,H⟩):bx T lim (.loop body) Q s:=by
 obtain ⟨n,e,s',h1,he,h2⟩:=h
 subst he
 exact ⟨n,_,s',h1,hQ _ _ _ h2⟩
abbrev EO:=Int
def cfI (x y:Int):Int:=x-y
def gO (l:List EO)(i:Nat):EO:=l.getD i default
def eO (x:EO):V:=.int .i64 x
def mD (l:List EO):Blk:=.row (bH l) true
theorem MO {x:EO}:stor (eO x)=true:=Eq.trans rfl rfl
attribute [simp] MO
theorem bF {b n:Nat}{i:Int}(h:0<=i/\i<n):aQ 1 (.sl b 0 n 1) (.int .i64 i)=some (V.ptr b i.toNat):=by
 rw [ah (by omega)];simp
theorem bf {H:Hp}{b:Nat}{l:List EO}(h:H[b]? = some (mD l)){i:Nat}(hi:i<l.length){L:Lo}:aW none L H (V.ptr b i)=some (eO (gO l i)):=by
 rw [bX h,Ou hi];rfl
theorem PX {lim:Nat}{H:Hp}{b:Nat}{l:List EO}(h:H[b]? = some (mD l))(hlim:lim<=b){i:Nat}(hi:i<l.length){L:Lo}(x:EO):aD lim L H (V.ptr b i) (eO x) 1=some (L,H.set b (mD (l.set i x))):=by
 have:i+1<=l.length:=hi
 have h:H[b]? = some (.row (bH l) true):=h
 simp [eO,mD,aD,bW,h,hlim,this,jJ hi]
structure SoS (b:Nat)(H0:Hp)(l0 l:List EO)(H:Hp):Prop where
 row:H[b]? = some (mD l)
 len:H0.length<=H.length
 oth:∀b',b'<H0.length->b'≠b->H[b']? = H0[b']?
 perm:l.Perm l0
 blt:b<H0.length
section
variable {lim:Nat}{H H0:Hp}{K:V->Hp->Prop}{b:Nat}{l l0:List EO}
theorem SoS.n (h:SoS b H0 l0 l H):l.length=l0.length:=h.perm.length_eq
theorem SoS.start (hb:H[b]? = some (mD l)):SoS b H l l H:=⟨hb,Nat.le_refl _,fun _ _ _=>rfl,.refl _,(List.getElem?_eq_some_iff.1 hb).1⟩
theorem SoS.lt (h:SoS b H0 l0 l H):b<H.length:=(List.getElem?_eq_some_iff.1 h.row).1
theorem SoS.grow {H':Hp}(h:SoS b H0 l0 l H)(x:HX H H'):SoS b H0 l0 l H' :=
 ⟨x.get h.row,Nat.le_trans h.len x.len,fun b' h1 h2=>(x.same (Nat.lt_of_lt_of_le h1 h.len)).trans (h.oth b' h1 h2),h.perm,h.blt⟩
theorem SoS.set {l':List EO}(h:SoS b H0 l0 l H)(hp:l'.Perm l0):SoS b H0 l0 l' (H.set b (mD l')) :=
 ⟨by simp [h.lt],by simpa using h.len,fun b' h1 h2=>by rw [List.getElem?_set_ne (fun e=>h2 e.symm)];exact h.oth b' h1 h2,hp,h.blt⟩
theorem SoS.swap (h:SoS b H0 l0 l H){i j:Nat}(hi:i<l.length)(hj:j<l.length):SoS b H0 l0 (swp l i j) (H.set b (mD (swp l i j))) :=
 h.set ((aY (a:=0) (b:=l.length) ⟨Nat.zero_le _,hi⟩ ⟨Nat.zero_le _,hj⟩ (Nat.le_refl _)).perm.trans h.perm)
theorem SoS.aside (h:SoS b H0 l0 l H){s:Nat}{r:Blk}(hs:H0.length<=s):SoS b H0 l0 l (H.set s r):=by
 have:=h.blt
 exact ⟨by rw [List.getElem?_set_ne (by omega)];exact h.row,by simpa using h.len,fun b' h1 h2=>by rw [List.getElem?_set_ne (by omega)];exact h.oth b' h1 h2,h.perm,h.blt⟩
theorem SoS.mem (h:SoS b H0 l0 l H){i:Nat}(hi:i<l.length):gO l i∈l0:=by
 rw [gO,←h.perm.mem_iff,gf hi];exact List.getElem_mem hi
theorem dq (hs:SoS b H0 l0 l H){i j:Nat}(hi:i<l.length)(hj:j<l.length){lim:Nat}{K:V->Hp->Prop}(hK:∀H',HX H H'->SoS b H0 l0 l H'->K (.bool (decide (cfI (gO l i) (gO l j)<0))) H') :
 aF tbl lim 89 [eO (gO l i),eO (gO l j)] H K:=by
 have h0:=hK H HX.refl hs
 have e:∀x y:Int,decide (cfI x y<0)=decide (x<y):=fun x y=>by rw [decide_eq_decide];unfold cfI;omega
 have e:=e (gO l i) (gO l j)
 rw [e] at h0
 refine ao tbl_at89 rfl ?_
 simp [vf89,eO]
 refine ao tbl_at118 rfl ?_
 simp [vf118]
 exact h0
theorem gm (h:SoS b H0 l0 l H)(hlim:lim<=b){i:Nat}(hi:i<l.length){L:Lo}(x:EO):aD lim L H (V.ptr b i) (eO x) 1=some (L,H.set b (mD (l.set i x))):=PX h.row hlim hi x
theorem gk (h:SoS b H0 l0 l H)(hlim:lim<=b){i j:Nat}(hj:j<l.length){L:Lo}:aD lim L (H.set b (mD (l.set i (gO l j)))) (V.ptr b j) (eO (gO l i)) 1=some (L,H.set b (mD (swp l i j))):=by
 rw [PX (l:=l.set i (gO l j)) (by simp [h.lt]) hlim (by simpa using hj),List.set_set];rfl
theorem Lh (hs:SoS b H0 l0 l H) (hlim:lim≤b) (ho:Ordr cfI) {a e:Nat} (hae:a≤e∧e≤l0.length) (hl:l0.length≤100000)
 (hK:∀H' l',SoS b H0 l0 l' H'->PermR a e l l'->br cfI a e l'->K (.tup []) H'):aF tbl lim 83 [.sl b 0 l0.length 1,.int .i64 a,.int .i64 e] H K:=by
 refine ao tbl_at83 rfl ?_
 have hn:=hs.n
 simp (disch:=omega) [vf83,ae]
 refine aO (e-(a+1)) (fun i fr L H'=>∃l',(fr 0=.sl b 0 l0.length 1/\fr 1=.int .i64 a/\fr 2=.int .i64 e/\fr 6=.int .i64 ((a+1+i:Nat):Int))/\L=[]/\SoS b H0 l0 l' H'/\PermR a e l l'/\br cfI a (min e (a+1+i)) l') ⟨l,by simp,rfl,hs,PermR.refl,fun p q h1 h2 h3=>by omega⟩ ?_
 rintro i hi fr L H' ⟨l',⟨f0,f1,f2,f6⟩,rfl,hr,hp,hs'⟩
 simp [f0,f1,f2,f6]
 refine aC (fun ht => ?_) fun hfl => ?_
 ·have ht:i<e-(a+1):=by omega
  rw [Nat.min_eq_right (by omega)] at hs'
  simp [f6]
  refine bK (n:=i+1) (fun m fr L H'=>∃l',(fr 0=.sl b 0 l0.length 1/\fr 1=.int .i64 a/\fr 2=.int .i64 e/\fr 6=.int .i64 ((a+1+i:Nat):Int)/\fr 7=.int .i64 ((a+m:Nat):Int))/\L=[]/\SoS b H0 l0 l' H'/\PermR a e l l'/\m<=i+1/\gJ cfI a (a+1+i) (a+m) l') ⟨l',by simp [f0,f1,f2,f6];omega,rfl,hr,hp,Nat.le_refl _,by rw [show a+(i+1)=a+1+i by omega];exact gJ.start hs'⟩ ?_
  clear f0 f1 f2 f6 hr hp hs' l'
  rintro m fr L H' ⟨l',⟨f0,f1,f2,f6,f7⟩,rfl,hr,hp,hm,hI⟩
  have hlen:=hp.len
  by_cases hm0:m=0
  ·subst hm0
   have hs2:=hI.done ho (by omega) (by omega) (Or.inl rfl)
   simp (disch:=omega) [f0,f1,f2,f6,f7,ae]
   refine ⟨by omega,by omega,l',hr,hp,?_⟩
   rw [show a+1+(i+1)=a+1+i+1 by omega];exact hs2
  ·have e1:((a:Int)+(m:Int)).toNat=a+m:=by omega
   have e2:((a:Int)+(m:Int)-1).toNat=a+m-1:=by omega
   have g1:=fun L=>bf hr.row (i:=a+m) (by omega) (L:=L)
   have g2:=fun L=>bf hr.row (i:=a+m-1) (by omega) (L:=L)
   have hgt:((a:Int)<(a:Int)+(m:Int))=True:=eq_true (by omega)
   simp (disch:=omega) [f0,f1,f2,f6,f7,hgt,ae,e1,e2,g1,g2,bF,-ah,-ag]
   refine dq hr (i:=a+m) (j:=a+m-1) (by omega) (by omega) fun H2 x2 hr2 => ?_
   have g1:=fun L=>bf hr2.row (i:=a+m) (by omega) (L:=L)
   have g2:=fun L=>bf hr2.row (i:=a+m-1) (by omega) (L:=L)
   simp
   refine aC (fun hlt => ?_) fun hlt => ?_
   ·have w1:=fun L=>gm hr2 hlim (i:=a+m) (by omega) (L:=L) (gO l' (a+m-1))
    have w2:=fun L=>gk hr2 hlim (i:=a+m) (j:=a+m-1) (by omega) (L:=L)
    have hr4:=hr2.swap (i:=a+m) (j:=a+m-1) (by omega) (by omega)
    have hsw:=gJ.swap ho hI (by omega) (by omega) (by omega) hlt
    have hsw:gJ cfI a (a+1+i) (a+(m-1)) (swp l' (a+m) (a+m-1)):=by
     have e3:a+(m-1)=a+m-1:=by omega
     rw [e3];exact hsw
    have hps:=hp.trans (aY (l:=l') (i:=a+m) (j:=a+m-1) (a:=a) (b:=e) ⟨by omega,by omega⟩ ⟨by omega,by omega⟩ (by omega))
    simp (disch:=omega) [f0,f1,f2,f6,f7,ae,e1,e2,g1,g2,w1,w2,bF,-ah,-aD,-ag]
    exact ⟨m-1,by omega,by omega,_,hr4,hps,by omega,hsw⟩
   ·have hs2:=hI.done ho (by omega) (by omega) (Or.inr hlt)
    simp (disch:=omega) [f0,f1,f2,f6,f7,ae]
    refine ⟨by omega,by omega,l',hr2,hp,?_⟩
    rw [show a+1+(i+1)=a+1+i+1 by omega];exact hs2
 ·have:e<=a+1+i:=by omega
  rw [Nat.min_eq_left this] at hs'
  simp
  exact hK _ _ hr hp hs'
theorem D0 {s:Nat}{w:Int}(h:H[s]? = some (.row [.int .i64 w] true)){L:Lo}:aW none L H (.ptr s 0)=some (.int .i64 w):=by
 rw [bX h];rfl
theorem PI {s:Nat}{w z:Int}(h:H[s]? = some (.row [.int .i64 w] true))(hl:lim<=s){L:Lo}:aD lim L H (.ptr s 0) (.int .i64 z) 1=some (L,H.set s (.row [.int .i64 z] true)):=by
 simp [aD,bW,h,hl,al]
theorem nI {s x y:Nat}{w:Int}(hs:SoS b H0 l0 l H)(hlim:lim<=b)(hsw:H[s]? = some (.row [.int .i64 w] true))(hs0:H0.length<=s)(hx:x<l0.length)(hy:y<l0.length)
 (hK:∀H' w' x' y',SoS b H0 l0 l H'->H'[s]? = some (.row [.int .i64 w'] true)->((x'=x/\y'=y)\/(x'=y/\y'=x))->K (.tup [.int .i64 (x':Nat),.int .i64 (y':Nat)]) H') :
 aF tbl lim 133 [.sl b 0 l0.length 1,.int .i64 x,.int .i64 y,.ptr s 0] H K:=by
 refine ao tbl_at133 rfl ?_
 have hn:=hs.n
 have g1:=fun L=>bf hs.row (i:=x) (by omega) (L:=L)
 have g2:=fun L=>bf hs.row (i:=y) (by omega) (L:=L)
 simp (disch:=omega) [vf133,g1,g2,bF,-ah,-ag]
 refine dq hs (i:=y) (j:=x) (by omega) (by omega) fun H2 x2 hs2 => ?_
 have hsw2:=x2.get hsw
 have hbl:=hs.blt
 simp
 refine aC (fun hlt => ?_) fun hlt => ?_
 ·have ld:=fun L=>D0 (L:=L) hsw2
  have st:=fun L z=>PI (lim:=lim) (L:=L) (z:=z) hsw2 (by omega)
  simp [ld,st,-aD,-ag]
  exact hK _ _ y x (hs2.aside hs0) (by rw [List.getElem?_set_self (List.getElem?_eq_some_iff.1 hsw2).1]) (Or.inr ⟨rfl,rfl⟩)
 ·simp
  exact hK _ _ x y hs2 hsw2 (Or.inl ⟨rfl,rfl⟩)
theorem s8 {s x y z:Nat}{w:Int}(hs:SoS b H0 l0 l H)(hlim:lim<=b)(hsw:H[s]? = some (.row [.int .i64 w] true))(hs0:H0.length<=s)(hx:x<l0.length)(hy:y<l0.length)(hz:z<l0.length)
 (hK:∀H' w' r,SoS b H0 l0 l H'->H'[s]? = some (.row [.int .i64 w'] true)->(r=x\/r=y\/r=z)->K (.int .i64 (r:Nat)) H') :
 aF tbl lim 117 [.sl b 0 l0.length 1,.int .i64 x,.int .i64 y,.int .i64 z,.ptr s 0] H K:=by
 refine ao tbl_at117 rfl ?_
 simp [vf117]
 refine nI hs hlim   hsw hs0 hx hy fun H1 w1 x1 y1 hs1 hsw1 h1 => ?_
 simp []
 refine nI hs1 hlim   hsw1 hs0 (x:=y1) (y:=z) (by omega) hz fun H2 w2 x2 y2 hs2 hsw2 h2 => ?_
 simp []
 refine nI hs2 hlim   hsw2 hs0 (x:=x1) (y:=x2) (by omega) (by omega) fun H3 w3 x3 y3 hs3 hsw3 h3 => ?_
 simp
 exact hK _ _ _ hs3 hsw3 (by omega)
theorem jr {s x:Nat}{w:Int}(hs:SoS b H0 l0 l H)(hlim:lim<=b)(hsw:H[s]? = some (.row [.int .i64 w] true))(hs0:H0.length<=s)(hx:0<x/\x+1<l0.length)(hl:l0.length<=100000)
 (hK:∀H' w' r,SoS b H0 l0 l H'->H'[s]? = some (.row [.int .i64 w'] true)->(x-1<=r/\r<=x+1)->K (.int .i64 (r:Nat)) H') :
 aF tbl lim 116 [.sl b 0 l0.length 1,.int .i64 x,.ptr s 0] H K:=by
 refine ao tbl_at116 rfl ?_
 have e1:(x:Int)-1=((x-1:Nat):Int):=by omega
 have e2:(x:Int)+1=((x+1:Nat):Int):=by omega
 simp (disch:=omega) [vf116,ae]
 rw [e1,e2]
 refine s8 hs hlim   hsw hs0 (x:=x-1) (y:=x) (z:=x+1) (by omega) (by omega) (by omega) fun H1 w1 r hs1 hsw1 h1 => ?_
 simp
 exact hK _ _ _ hs1 hsw1 (by omega)
theorem AE (hs:SoS b H0 l0 l H)(hlim:lim<=b){a e:Nat}(hae:a<e/\e<=l0.length)(hl:l0.length<=100000)
 (hK:∀H' l',SoS b H0 l0 l' H'->PermR a e l l'->K (.tup []) H'):aF tbl lim 87 [.sl b 0 l0.length 1,.int .i64 a,.int .i64 e] H K:=by
 refine ao tbl_at87 rfl ?_
 have hn:=hs.n
 simp (disch:=omega) [vf87,ae]
 refine aO (e-a) (fun i fr L H'=>∃l',(fr 0=.sl b 0 l0.length 1/\fr 6=.int .i64 ((a+i:Nat):Int)/\fr 7=.int .i64 ((e-1:Nat)-(i:Nat):Int))/\L=[]/\SoS b H0 l0 l' H'/\PermR a e l l') ⟨l,by simp;omega,rfl,hs,PermR.refl⟩ ?_
 rintro i hi fr L H' ⟨l',⟨f0,f6,f7⟩,rfl,hr,hp⟩
 have hlen:=hp.len
 simp [f0,f6,f7]
 refine aC (fun ht => ?_) fun hfl => ?_
 ·have e1:((a:Int)+(i:Int)).toNat=a+i:=by omega
  have e2:(((e-1:Nat):Int)-(i:Int)).toNat=e-1-i:=by omega
  have g1:=fun L=>bf hr.row (i:=a+i) (by omega) (L:=L)
  have g2:=fun L=>bf hr.row (i:=e-1-i) (by omega) (L:=L)
  have w1:=fun L=>gm hr hlim (i:=a+i) (by omega) (L:=L) (gO l' (e-1-i))
  have w2:=fun L=>gk hr hlim (i:=a+i) (j:=e-1-i) (by omega) (L:=L)
  have hr4:=hr.swap (i:=a+i) (j:=e-1-i) (by omega) (by omega)
  have hps:=hp.trans (aY (l:=l') (i:=a+i) (j:=e-1-i) (a:=a) (b:=e) ⟨by omega,by omega⟩ ⟨by omega,by omega⟩ (by omega))
  simp (disch:=omega) [f0,f6,f7,ae,e1,e2,g1,g2,w1,w2,bF,-ah,-aD,-ag]
  exact ⟨by omega,by omega,_,hr4,hps⟩
 ·simp
  exact hK _ _ hr hp
end
end Go.Proofs.YtgjlhdggllakbaaGreatDoor.Vm
namespace Go.Proofs.YtgjlhdggllakbaaGreatDoor.Vm
open Go
set_option maxRecDepth 100000
set_option maxHeartbeats 1000000
attribute [-simp] List.getD_eq_getElem?_getD
section
variable {lim:Nat}{H H0:Hp}{K:V->Hp->Prop}{b:Nat}{l l0:List EO}
theorem Dy (hs:SoS b H0 l0 l H) (hlim:lim≤b) (ho:Ordr cfI) {f lo hi:Nat} (hf:f+hi≤l0.length∧lo<hi+1) (hl:l0.length≤100000) (hp:HpR cfI f (lo+1) hi l)
 (hK:∀H' l',SoS b H0 l0 l' H'->PermR f (f+hi) l l'->HpR cfI f lo hi l'->K (.tup []) H') :
 aF tbl lim 113 [.sl b 0 l0.length 1,.int .i64 lo,.int .i64 hi,.int .i64 f] H K:=by
 refine ao tbl_at113 rfl ?_
 have hn:=hs.n
 simp (disch:=omega) [vf113,ae]
 refine bK (n:=hi+1-lo) (fun m fr L H'=>∃l' r,(fr 0=.sl b 0 l0.length 1/\fr 2=.int .i64 hi/\fr 3=.int .i64 f/\fr 8=.int .i64 (r:Nat))/\L=[]/\SoS b H0 l0 l' H'/\PermR f (f+hi) l l'/\SfI cfI f lo hi r l'/\r<=hi/\m=hi+1-r) ⟨l,lo,by simp,rfl,hs,PermR.refl,SfI.start hp,by omega,rfl⟩ ?_
 rintro m fr L H' ⟨l',r,⟨f0,f2,f3,f8⟩,rfl,hr,hpp,hI,hrh,hm⟩
 have hlen:=hpp.len
 simp (disch:=omega) [f0,f2,f3,f8,ae]
 refine aC (fun ht => ?_) fun ht => ?_
 ·simp
  exact hK _ _ hr hpp (hI.end1 (by omega))
 have h1:2*r+1<hi:=by omega
 have e1:((f:Int)+(2*(r:Int)+1)).toNat=f+(2*r+1):=by omega
 have e2:((f:Int)+(2*(r:Int)+1)+1).toNat=f+(2*r+1+1):=by omega
 have e3:((f:Int)+(r:Int)).toNat=f+r:=by omega
 have e4:((f:Int)+(2*(r:Int)+1+1)).toNat=f+(2*r+1+1):=by omega
 have g1:=fun L=>bf hr.row (i:=f+(2*r+1)) (by omega) (L:=L)
 by_cases h2:2*r+1+1<hi
 ·have g2:=fun L=>bf hr.row (i:=f+(2*r+1+1)) (by omega) (L:=L)
  have hgt:(2*(r:Int)+1+1<(hi:Int))=True:=eq_true (by omega)
  simp (disch:=omega) [f0,f2,f3,f8,hgt,ae,e1,e2,g1,g2,bF,-ah,-ag]
  refine dq hr (i:=f+(2*r+1)) (j:=f+(2*r+1+1)) (by omega) (by omega) fun H2 x2 hr2 => ?_
  simp
  refine aC (fun hlt => ?_) fun hlt => ?_
  ·have ch0:=ChR.two ho h2 hlt
   have ch:ChR cfI f hi r (2*r+1+1) l':=ch0
   have hcr:=ch.rng
   have g3:=fun L=>bf hr2.row (i:=f+r) (by omega) (L:=L)
   have g4:=fun L=>bf hr2.row (i:=f+(2*r+1+1)) (by omega) (L:=L)
   simp (disch:=omega) [f0,f2,f3,f8,ae,e1,e2,e3,e4,g3,g4,bF,-ah,-ag]
   refine dq hr2 (i:=f+r) (j:=f+(2*r+1+1)) (by omega) (by omega) fun H3 x3 hr3 => ?_
   simp
   refine bM (fun hlt => ?_) fun hlt => ?_
   ·simp
    exact hK _ _ hr3 hpp (hI.end2 ho ch hlt)
   ·have g3:=fun L=>bf hr3.row (i:=f+r) (by omega) (L:=L)
    have g4:=fun L=>bf hr3.row (i:=f+(2*r+1+1)) (by omega) (L:=L)
    have w1:=fun L=>gm hr3 hlim (i:=f+r) (by omega) (L:=L) (gO l' (f+(2*r+1+1)))
    have w2:=fun L=>gk hr3 hlim (i:=f+r) (j:=f+(2*r+1+1)) (by omega) (L:=L)
    have hr4:=hr3.swap (i:=f+r) (j:=f+(2*r+1+1)) (by omega) (by omega)
    have hps:=hpp.trans (aY (l:=l') (i:=f+r) (j:=f+(2*r+1+1)) (a:=f) (b:=f+hi) ⟨by omega,by omega⟩ ⟨by omega,by omega⟩ (by omega))
    have hI2:=hI.step ho ch (by omega) hlt
    simp (disch:=omega) [f0,f2,f3,f8,ae,e1,e2,e3,e4,g3,g4,w1,w2,bF,-ah,-aD,-ag]
    exact ⟨hi+1-(2*r+1+1),by omega,_,2*r+1+1,by omega,hr4,hps,hI2,by omega,rfl⟩
  ·have ch0:=ChR.one ho (hi:=hi) (l:=l') (f:=f) h1 (fun h=>hlt h.2)
   have ch:ChR cfI f hi r (2*r+1) l':=ch0
   have hcr:=ch.rng
   have g3:=fun L=>bf hr2.row (i:=f+r) (by omega) (L:=L)
   have g4:=fun L=>bf hr2.row (i:=f+(2*r+1)) (by omega) (L:=L)
   simp (disch:=omega) [f0,f2,f3,f8,ae,e1,e2,e3,e4,g3,g4,bF,-ah,-ag]
   refine dq hr2 (i:=f+r) (j:=f+(2*r+1)) (by omega) (by omega) fun H3 x3 hr3 => ?_
   simp
   refine bM (fun hlt => ?_) fun hlt => ?_
   ·simp
    exact hK _ _ hr3 hpp (hI.end2 ho ch hlt)
   ·have g3:=fun L=>bf hr3.row (i:=f+r) (by omega) (L:=L)
    have g4:=fun L=>bf hr3.row (i:=f+(2*r+1)) (by omega) (L:=L)
    have w1:=fun L=>gm hr3 hlim (i:=f+r) (by omega) (L:=L) (gO l' (f+(2*r+1)))
    have w2:=fun L=>gk hr3 hlim (i:=f+r) (j:=f+(2*r+1)) (by omega) (L:=L)
    have hr4:=hr3.swap (i:=f+r) (j:=f+(2*r+1)) (by omega) (by omega)
    have hps:=hpp.trans (aY (l:=l') (i:=f+r) (j:=f+(2*r+1)) (a:=f) (b:=f+hi) ⟨by omega,by omega⟩ ⟨by omega,by omega⟩ (by omega))
    have hI2:=hI.step ho ch (by omega) hlt
    simp (disch:=omega) [f0,f2,f3,f8,ae,e1,e2,e3,e4,g3,g4,w1,w2,bF,-ah,-aD,-ag]
    exact ⟨hi+1-(2*r+1),by omega,_,2*r+1,by omega,hr4,hps,hI2,by omega,rfl⟩
 ·have ch0:=ChR.one ho (hi:=hi) (l:=l') (f:=f) h1 (fun h=>h2 h.1)
  have hgd:decide (2*(r:Int)+1+1<(hi:Int))=false:=decide_eq_false (by omega)
  simp (disch:=omega) [f0,f2,f3,f8,hgd,ae,-ah]
  have ch:ChR cfI f hi r (2*r+1) l':=ch0
  have hcr:=ch.rng
  have g3:=fun L=>bf hr.row (i:=f+r) (by omega) (L:=L)
  have g4:=fun L=>bf hr.row (i:=f+(2*r+1)) (by omega) (L:=L)
  simp (disch:=omega) [f0,f2,f3,f8,ae,e1,e2,e3,e4,g3,g4,bF,-ah,-ag]
  refine dq hr (i:=f+r) (j:=f+(2*r+1)) (by omega) (by omega) fun H3 x3 hr3 => ?_
  simp
  refine bM (fun hlt => ?_) fun hlt => ?_
  ·simp
   exact hK _ _ hr3 hpp (hI.end2 ho ch hlt)
  ·have g3:=fun L=>bf hr3.row (i:=f+r) (by omega) (L:=L)
   have g4:=fun L=>bf hr3.row (i:=f+(2*r+1)) (by omega) (L:=L)
   have w1:=fun L=>gm hr3 hlim (i:=f+r) (by omega) (L:=L) (gO l' (f+(2*r+1)))
   have w2:=fun L=>gk hr3 hlim (i:=f+r) (j:=f+(2*r+1)) (by omega) (L:=L)
   have hr4:=hr3.swap (i:=f+r) (j:=f+(2*r+1)) (by omega) (by omega)
   have hps:=hpp.trans (aY (l:=l') (i:=f+r) (j:=f+(2*r+1)) (a:=f) (b:=f+hi) ⟨by omega,by omega⟩ ⟨by omega,by omega⟩ (by omega))
   have hI2:=hI.step ho ch (by omega) hlt
   simp (disch:=omega) [f0,f2,f3,f8,ae,e1,e2,e3,e4,g3,g4,w1,w2,bF,-ah,-aD,-ag]
   exact ⟨hi+1-(2*r+1),by omega,_,2*r+1,by omega,hr4,hps,hI2,by omega,rfl⟩
theorem Nw (hs:SoS b H0 l0 l H)(hlim:lim<=b)(ho:Ordr cfI){a e:Nat}(hae:a<e/\e<=l0.length)(hl:l0.length<=100000)
 (hK:∀H' l',SoS b H0 l0 l' H'->PermR a e l l'->br cfI a e l'->K (.tup []) H'):aF tbl lim 84 [.sl b 0 l0.length 1,.int .i64 a,.int .i64 e] H K:=by
 refine ao tbl_at84 rfl ?_
 have hn:=hs.n
 obtain ⟨d,rfl⟩:∃d,e=a+d:=⟨e-a,by omega⟩
 have ed:((a+d:Nat):Int)-(a:Int)=(d:Int):=by omega
 have e0:(a:Int)+(d:Int)-(a:Int)=(d:Int):=by omega
 have eq2:((d:Int)-1).tdiv 2=(((d-1) / 2:Nat):Int):=by
  have:(d:Int)-1=((d-1:Nat):Int):=by omega
  rw [this];exact iQ _ 2
 simp (disch:=omega) [vf84,ae,ed,e0,eq2]
 refine b9 0 (fun fr L H'=>∃l',(fr 0=.sl b 0 l0.length 1/\fr 6=.int .i64 a/\fr 7=.int .i64 0/\fr 8=.int .i64 d)/\L=[]/\SoS b H0 l0 l' H'/\PermR a (a+d) l l'/\HpR cfI a 0 d l') ?_ ?_
 ·refine bK (n:=(d-1) / 2+1) (fun m fr L H'=>∃l',(fr 0=.sl b 0 l0.length 1/\fr 6=.int .i64 a/\fr 7=.int .i64 0/\fr 8=.int .i64 d/\fr 9=.int .i64 ((m:Nat)-1:Int))/\L=[]/\SoS b H0 l0 l' H'/\PermR a (a+d) l l'/\HpR cfI a m d l'/\m<=(d-1) / 2+1) ⟨l,by simp,rfl,hs,PermR.refl,HpR.none,Nat.le_refl _⟩ ?_
  rintro m fr L H' ⟨l',⟨f0,f6,f7,f8,f9⟩,rfl,hr,hp,hH,hm⟩
  have hlen:=hp.len
  simp [f0,f6,f7,f8,f9]
  refine aC (fun ht => ?_) fun ht => ?_
  ·obtain ⟨k,rfl⟩:∃k,m=k+1:=⟨m-1,by omega⟩
   have e1:((k+1:Nat):Int)-1=(k:Int):=by omega
   have e2:(k:Int)+1-1=(k:Int):=by omega
   simp [f0,f6,f7,f8,f9,e1,e2]
   refine Dy hr hlim   ho (f:=a) (lo:=k) (hi:=d) (by omega) hl hH fun H2 l2 hr2 hp2 hH2 => ?_
   simp (disch:=omega) [f0,f6,f7,f8,f9,e1,e2,ae]
   exact ⟨k,by omega,by omega,l2,hr2,hp.trans hp2,hH2,by omega⟩
  ·have:m=0:=by omega
   subst this
   simp [f0,f6,f7,f8]
   exact ⟨l',hr,hp,hH⟩
 rintro fr L H' ⟨l',⟨f0,f6,f7,f8⟩,rfl,hr,hp,hH⟩
 simp (disch:=omega) [f0,f6,f7,f8,ae]
 refine bK (n:=d) (fun m fr L H'=>∃l',(fr 0=.sl b 0 l0.length 1/\fr 6=.int .i64 a/\fr 7=.int .i64 0/\fr 8=.int .i64 d/\fr 10=.int .i64 ((m:Nat)-1:Int))/\L=[]/\SoS b H0 l0 l' H'/\PermR a (a+d) l l'/\HpR cfI a 0 m l'/\OutR cfI a (a+d) a (a+m) l'/\m<=d) ⟨l',by simp [f0,f6,f7,f8],rfl,hr,hp,hH,OutR.start (by omega),Nat.le_refl _⟩ ?_
 clear f0 f6 f7 f8 hr hp hH l'
 rintro m fr L H' ⟨l',⟨f0,f6,f7,f8,f10⟩,rfl,hr,hp,hH,hO,hm⟩
 have hlen:=hp.len
 simp [f0,f6,f7,f8,f10]
 refine aC (fun ht => ?_) fun ht => ?_
 ·obtain ⟨k,rfl⟩:∃k,m=k+1:=⟨m-1,by omega⟩
  have e1:((k+1:Nat):Int)-1=(k:Int):=by omega
  have e2:(k:Int)+1-1=(k:Int):=by omega
  have e3:((a:Int)+(k:Int)).toNat=a+k:=by omega
  have g1:=fun L=>bf hr.row (i:=a) (by omega) (L:=L)
  have g2:=fun L=>bf hr.row (i:=a+k) (by omega) (L:=L)
  have w1:=fun L=>gm hr hlim (i:=a) (by omega) (L:=L) (gO l' (a+k))
  have w2:=fun L=>gk hr hlim (i:=a) (j:=a+k) (by omega) (L:=L)
  have hr4:=hr.swap (i:=a) (j:=a+k) (by omega) (by omega)
  have hps:=hp.trans (aY (l:=l') (i:=a) (j:=a+k) (a:=a) (b:=a+d) ⟨by omega,by omega⟩ ⟨by omega,by omega⟩ (by omega))
  obtain ⟨hH1,hO1⟩:=hH.pop ho hO (by omega)
  simp (disch:=omega) [f0,f6,f7,f8,f10,e1,e2,e3,ae,g1,g2,w1,w2,bF,-ah,-aD,-ag]
  refine Dy hr4 hlim   ho (f:=a) (lo:=0) (hi:=k) (by omega) hl hH1 fun H2 l2 hr2 hp2 hH2 => ?_
  simp (disch:=omega) [f0,f6,f7,f8,f10,e1,e2,ae]
  exact ⟨k,by omega,by omega,l2,hr2,hps.trans (hp2.wide (Nat.le_refl _) (by omega)),hH2,hO1.perm hp2 (by rw [uP];omega),by omega⟩
 ·have:m=0:=by omega
  subst this
  simp
  exact hK _ _ hr hp (hO.sort fun p q h1 h2 h3=>by omega)
theorem OD (hs:SoS b H0 l0 l H) (hlim:lim≤b) (ho:Ordr cfI) {a e v:Nat} (hae:a≤v∧v<e∧e≤l0.length) (hl:l0.length≤100000)
 (hK:∀H' l' m ok,SoS b H0 l0 l' H'->PermR a e l l'->PartR cfI a e m l'->K (.tup [.int .i64 (m:Nat),.bool ok]) H'):aF tbl lim 91 [.sl b 0 l0.length 1,.int .i64 a,.int .i64 e,.int .i64 v] H K:=by
 refine ao tbl_at91 rfl ?_
 have hn:=hs.n
 have g1:=fun L=>bf hs.row (i:=a) (by omega) (L:=L)
 have g2:=fun L=>bf hs.row (i:=v) (by omega) (L:=L)
 have w1:=fun L=>gm hs hlim (i:=a) (by omega) (L:=L) (gO l v)
 have w2:=fun L=>gk hs hlim (i:=a) (j:=v) (by omega) (L:=L)
 have hs1:=hs.swap (i:=a) (j:=v) (by omega) (by omega)
 have hp1:PermR a e l (swp l a v):=aY ⟨by omega,by omega⟩ ⟨by omega,by omega⟩ (by omega)
 have e0:(e:Int)-1=((e-1:Nat):Int):=by omega
 simp (disch:=omega) [vf91,ae,g1,g2,w1,w2,bF,e0,-ah,-aD,-ag]
 refine b9 0 (fun fr L H'=>∃l' i j,(fr 0=.sl b 0 l0.length 1/\fr 1=.int .i64 a/\fr 10=.int .i64 (i:Nat)/\fr 11=.int .i64 (j:Nat))/\L=[]/\SoS b H0 l0 l' H'/\PermR a e l l'/\PtI cfI a e i j l'/\j+1-i<=(e-a)/\(i<=j->¬cfI (gO l' i) (gO l' a)<0)) ?_ ?_
 ·refine bK (n:=(e-a)) (fun m fr L H'=>∃l' i j,(fr 0=.sl b 0 l0.length 1/\fr 1=.int .i64 a/\fr 10=.int .i64 (i:Nat)/\fr 11=.int .i64 (j:Nat))/\L=[]/\SoS b H0 l0 l' H'/\PermR a e l l'/\PtI cfI a e i j l'/\j+1-i<=m/\m<=(e-a)) ⟨swp l a v,a+1,e-1,by simp,rfl,hs1,hp1,PtI.start (by omega),by omega,Nat.le_refl _⟩ ?_
  rintro m fr L H' ⟨l',i,j,⟨f0,f1,f10,f11⟩,rfl,hr,hp,hI,hm,hm2⟩
  have hrg:=hI.rng
  have hlen:=hp.len
  by_cases hij:i<=j
  ·have hgt:((i:Int)<=(j:Int))=True:=eq_true (by omega)
   have g1:=fun L=>bf hr.row (i:=i) (by omega) (L:=L)
   have g2:=fun L=>bf hr.row (i:=a) (by omega) (L:=L)
   simp (disch:=omega) [f0,f1,f10,f11,hgt,ae,g1,g2,bF,-ah,-ag]
   refine dq hr (i:=i) (j:=a) (by omega) (by omega) fun H2 x2 hr2 => ?_
   simp
   refine aC (fun hlt => ?_) fun hlt => ?_
   ·simp (disch:=omega) [f0,f1,f10,f11,ae]
    exact ⟨m-1,by omega,l',i+1,j,by omega,hr2,hp,hI.up hij hlt,by omega,by omega⟩
   ·simp [f0,f1,f10,f11]
    exact ⟨l',i,j,by omega,hr2,hp,hI,by omega,fun _=>by omega⟩
  ·have hgt:((i:Int)<=(j:Int))=False:=eq_false (by omega)
   simp (disch:=omega) [f0,f1,f10,f11,hgt]
   exact ⟨l',i,j,by omega,hr,hp,hI,by omega,fun h=>absurd h hij⟩
 rintro fr L H' ⟨l',i,j,⟨f0,f1,f10,f11⟩,rfl,hr,hp,hI,hm,hup⟩
 simp [f0,f1,f10,f11]
 refine b9 2 (fun fr L H'=>∃l' i j,(fr 0=.sl b 0 l0.length 1/\fr 1=.int .i64 a/\fr 10=.int .i64 (i:Nat)/\fr 11=.int .i64 (j:Nat))/\L=[]/\SoS b H0 l0 l' H'/\PermR a e l l'/\PtI cfI a e i j l'/\j+1-i<=(e-a)/\(i<=j->¬cfI (gO l' i) (gO l' a)<0)/\(i<=j->cfI (gO l' j) (gO l' a)<0)) ?_ ?_
 ·refine bK (n:=(e-a)) (fun m fr L H'=>∃l' i j,(fr 0=.sl b 0 l0.length 1/\fr 1=.int .i64 a/\fr 10=.int .i64 (i:Nat)/\fr 11=.int .i64 (j:Nat))/\L=[]/\SoS b H0 l0 l' H'/\PermR a e l l'/\PtI cfI a e i j l'/\(i<=j->¬cfI (gO l' i) (gO l' a)<0)/\j+1-i<=m/\m<=(e-a)) ⟨l',i,j,by simp [f0,f1,f10,f11],rfl,hr,hp,hI,hup,hm,Nat.le_refl _⟩ ?_
  clear f0 f1 f10 f11 hr hp hI hup hm l' i j
  rintro m fr L H' ⟨l',i,j,⟨f0,f1,f10,f11⟩,rfl,hr,hp,hI,hup,hm,hm2⟩
  have hrg:=hI.rng
  have hlen:=hp.len
  by_cases hij:i<=j
  ·have hgt:((i:Int)<=(j:Int))=True:=eq_true (by omega)
   have g1:=fun L=>bf hr.row (i:=j) (by omega) (L:=L)
   have g2:=fun L=>bf hr.row (i:=a) (by omega) (L:=L)
   simp (disch:=omega) [f0,f1,f10,f11,hgt,ae,g1,g2,bF,-ah,-ag]
   refine dq hr (i:=j) (j:=a) (by omega) (by omega) fun H2 x2 hr2 => ?_
   simp
   refine bM (fun hlt => ?_) fun hlt => ?_
   ·have e1:(j:Int)-1=((j-1:Nat):Int):=by omega
    simp (disch:=omega) [f0,f1,f10,f11,ae,e1]
    exact ⟨m-1,by omega,l',i,j-1,by omega,hr2,hp,hI.down hij hlt,fun h=>by have:=hup (by omega);omega,by omega,by omega⟩
   ·simp [f0,f1,f10,f11]
    exact ⟨l',i,j,by omega,hr2,hp,hI,by omega,fun h=>by have:=hup h;omega,fun _=>by omega⟩
  ·have hgt:((i:Int)<=(j:Int))=False:=eq_false (by omega)
   simp (disch:=omega) [f0,f1,f10,f11,hgt]
   exact ⟨l',i,j,by omega,hr,hp,hI,by omega,fun h=>absurd h hij,fun h=>absurd h hij⟩
 clear f0 f1 f10 f11 hr hp hI hup hm l' i j
 rintro fr L H' ⟨l',i,j,⟨f0,f1,f10,f11⟩,rfl,hr,hp,hI,hm,hup,hdn⟩
 have hrg:=hI.rng
 have hlen:=hp.len
 by_cases hij:i<=j
 ·have hgt:((j:Int)<(i:Int))=False:=eq_false (by omega)
  have hi0:=hup hij
  have hj0:=hdn hij
  have g1:=fun L=>bf hr.row (i:=i) (by omega) (L:=L)
  have g2:=fun L=>bf hr.row (i:=j) (by omega) (L:=L)
  have w1:=fun L=>gm hr hlim (i:=i) (by omega) (L:=L) (gO l' j)
  have w2:=fun L=>gk hr hlim (i:=i) (j:=j) (by omega) (L:=L)
  have hr4:=hr.swap (i:=i) (j:=j) (by omega) (by omega)
  have hps:=hp.trans (aY (l:=l') (i:=i) (j:=j) (a:=a) (b:=e) ⟨by omega,by omega⟩ ⟨by omega,by omega⟩ (by omega))
  have hI2:=hI.swap ho hij (by omega) hi0 hj0
  have hrg2:=hI2.rng
  have e1:(j:Int)-1=((j-1:Nat):Int):=by omega
  simp (disch:=omega) [f0,f1,f10,f11,hgt,e1,ae,g1,g2,w1,w2,bF,-ah,-aD,-ag]
  refine bK (n:=(e-a)) (fun m fr L H'=>∃l' i j,(fr 0=.sl b 0 l0.length 1/\fr 1=.int .i64 a/\fr 10=.int .i64 (i:Nat)/\fr 11=.int .i64 (j:Nat))/\L=[]/\SoS b H0 l0 l' H'/\PermR a e l l'/\PtI cfI a e i j l'/\j+1-i<=m/\m<=(e-a)) ⟨swp l' i j,i+1,j-1,by simp [f0,f1,f10,f11],rfl,hr4,hps,hI2,by omega,Nat.le_refl _⟩ ?_
  clear f0 f1 f10 f11 hr hp hI hup hdn hm hrg hlen hij hgt hi0 hj0 g1 g2 w1 w2 hr4 hps hI2 hrg2 e1 l' i j
  rintro n fr L H' ⟨l',i,j,⟨f0,f1,f10,f11⟩,rfl,hr,hp,hI,hm,hn2⟩
  simp [f0,f1,f10,f11]
  refine b9 6 (fun fr L H'=>∃l' i j,(fr 0=.sl b 0 l0.length 1/\fr 1=.int .i64 a/\fr 10=.int .i64 (i:Nat)/\fr 11=.int .i64 (j:Nat))/\L=[]/\SoS b H0 l0 l' H'/\PermR a e l l'/\PtI cfI a e i j l'/\j+1-i<=n/\(i<=j->¬cfI (gO l' i) (gO l' a)<0)) ?_ ?_
  ·refine bK (n:=n) (fun m fr L H'=>∃l' i j,(fr 0=.sl b 0 l0.length 1/\fr 1=.int .i64 a/\fr 10=.int .i64 (i:Nat)/\fr 11=.int .i64 (j:Nat))/\L=[]/\SoS b H0 l0 l' H'/\PermR a e l l'/\PtI cfI a e i j l'/\j+1-i<=m/\m<=n) ⟨l',i,j,by simp [f0,f1,f10,f11],rfl,hr,hp,hI,hm,Nat.le_refl _⟩ ?_
   clear f0 f1 f10 f11 hr hp hI hm l' i j
   rintro m fr L H' ⟨l',i,j,⟨f0,f1,f10,f11⟩,rfl,hr,hp,hI,hm,hm2⟩
   have hrg:=hI.rng
   have hlen:=hp.len
   by_cases hij:i<=j
   ·have hgt:((i:Int)<=(j:Int))=True:=eq_true (by omega)
    have g1:=fun L=>bf hr.row (i:=i) (by omega) (L:=L)
    have g2:=fun L=>bf hr.row (i:=a) (by omega) (L:=L)
    simp (disch:=omega) [f0,f1,f10,f11,hgt,ae,g1,g2,bF,-ah,-ag]
    refine dq hr (i:=i) (j:=a) (by omega) (by omega) fun H2 x2 hr2 => ?_
    simp
    refine aC (fun hlt => ?_) fun hlt => ?_
    ·simp (disch:=omega) [f0,f1,f10,f11,ae]
     exact ⟨m-1,by omega,l',i+1,j,by omega,hr2,hp,hI.up hij hlt,by omega,by omega⟩
    ·simp [f0,f1,f10,f11]
     exact ⟨l',i,j,by omega,hr2,hp,hI,by omega,fun _=>by omega⟩
   ·have hgt:((i:Int)<=(j:Int))=False:=eq_false (by omega)
    simp (disch:=omega) [f0,f1,f10,f11,hgt]
    exact ⟨l',i,j,by omega,hr,hp,hI,by omega,fun h=>absurd h hij⟩
  clear f0 f1 f10 f11 hr hp hI hm l' i j
  rintro fr L H' ⟨l',i,j,⟨f0,f1,f10,f11⟩,rfl,hr,hp,hI,hm,hup⟩
  simp [f0,f1,f10,f11]
  refine b9 8 (fun fr L H'=>∃l' i j,(fr 0=.sl b 0 l0.length 1/\fr 1=.int .i64 a/\fr 10=.int .i64 (i:Nat)/\fr 11=.int .i64 (j:Nat))/\L=[]/\SoS b H0 l0 l' H'/\PermR a e l l'/\PtI cfI a e i j l'/\j+1-i<=n/\(i<=j->¬cfI (gO l' i) (gO l' a)<0)/\(i<=j->cfI (gO l' j) (gO l' a)<0)) ?_ ?_
  ·refine bK (n:=n) (fun m fr L H'=>∃l' i j,(fr 0=.sl b 0 l0.length 1/\fr 1=.int .i64 a/\fr 10=.int .i64 (i:Nat)/\fr 11=.int .i64 (j:Nat))/\L=[]/\SoS b H0 l0 l' H'/\PermR a e l l'/\PtI cfI a e i j l'/\(i<=j->¬cfI (gO l' i) (gO l' a)<0)/\j+1-i<=m/\m<=n) ⟨l',i,j,by simp [f0,f1,f10,f11],rfl,hr,hp,hI,hup,hm,Nat.le_refl _⟩ ?_
   clear f0 f1 f10 f11 hr hp hI hup hm l' i j
   rintro m fr L H' ⟨l',i,j,⟨f0,f1,f10,f11⟩,rfl,hr,hp,hI,hup,hm,hm2⟩
   have hrg:=hI.rng
   have hlen:=hp.len
   by_cases hij:i<=j
   ·have hgt:((i:Int)<=(j:Int))=True:=eq_true (by omega)
    have g1:=fun L=>bf hr.row (i:=j) (by omega) (L:=L)
    have g2:=fun L=>bf hr.row (i:=a) (by omega) (L:=L)
    simp (disch:=omega) [f0,f1,f10,f11,hgt,ae,g1,g2,bF,-ah,-ag]
    refine dq hr (i:=j) (j:=a) (by omega) (by omega) fun H2 x2 hr2 => ?_
    simp
    refine bM (fun hlt => ?_) fun hlt => ?_
    ·have e1:(j:Int)-1=((j-1:Nat):Int):=by omega
     simp (disch:=omega) [f0,f1,f10,f11,ae,e1]
     exact ⟨m-1,by omega,l',i,j-1,by omega,hr2,hp,hI.down hij hlt,fun h=>by have:=hup (by omega);omega,by omega,by omega⟩
    ·simp [f0,f1,f10,f11]
     exact ⟨l',i,j,by omega,hr2,hp,hI,by omega,fun h=>by have:=hup h;omega,fun _=>by omega⟩
   ·have hgt:((i:Int)<=(j:Int))=False:=eq_false (by omega)
    simp (disch:=omega) [f0,f1,f10,f11,hgt]
    exact ⟨l',i,j,by omega,hr,hp,hI,by omega,fun h=>absurd h hij,fun h=>absurd h hij⟩
  clear f0 f1 f10 f11 hr hp hI hup hm l' i j
  rintro fr L H' ⟨l',i,j,⟨f0,f1,f10,f11⟩,rfl,hr,hp,hI,hm,hup,hdn⟩
  have hrg:=hI.rng
  have hlen:=hp.len
  by_cases hij:i<=j
  ·have hgt:((j:Int)<(i:Int))=False:=eq_false (by omega)
   have hi0:=hup hij
   have hj0:=hdn hij
   have g1:=fun L=>bf hr.row (i:=i) (by omega) (L:=L)
   have g2:=fun L=>bf hr.row (i:=j) (by omega) (L:=L)
   have w1:=fun L=>gm hr hlim (i:=i) (by omega) (L:=L) (gO l' j)
   have w2:=fun L=>gk hr hlim (i:=i) (j:=j) (by omega) (L:=L)
   have hr4:=hr.swap (i:=i) (j:=j) (by omega) (by omega)
   have hps:=hp.trans (aY (l:=l') (i:=i) (j:=j) (a:=a) (b:=e) ⟨by omega,by omega⟩ ⟨by omega,by omega⟩ (by omega))
   have hI2:=hI.swap ho hij (by omega) hi0 hj0
   have hrg2:=hI2.rng
   have e1:(j:Int)-1=((j-1:Nat):Int):=by omega
   simp (disch:=omega) [f0,f1,f10,f11,hgt,e1,ae,g1,g2,w1,w2,bF,-ah,-aD,-ag]
   exact ⟨n-1,by omega,_,i+1,j-1,by omega,hr4,hps,hI2,by omega,by omega⟩
  ·have hgt:((j:Int)<(i:Int))=True:=eq_true (by omega)
   have hij2:¬i<=j:=hij
   have g1:=fun L=>bf hr.row (i:=j) (by omega) (L:=L)
   have g2:=fun L=>bf hr.row (i:=a) (by omega) (L:=L)
   have w1:=fun L=>gm hr hlim (i:=j) (by omega) (L:=L) (gO l' a)
   have w2:=fun L=>gk hr hlim (i:=j) (j:=a) (by omega) (L:=L)
   have hr4:=hr.swap (i:=j) (j:=a) (by omega) (by omega)
   have hps:=hp.trans (aY (l:=l') (i:=j) (j:=a) (a:=a) (b:=e) ⟨by omega,by omega⟩ ⟨by omega,by omega⟩ (by omega))
   simp (disch:=omega) [f0,f1,f10,f11,hgt,ae,g1,g2,w1,w2,bF,-ah,-aD,-ag]
   exact hK _ _ j false hr4 hps (hI.done ho hij2 (by omega))
 ·have hgt:((j:Int)<(i:Int))=True:=eq_true (by omega)
  have hij2:¬i<=j:=hij
  have g1:=fun L=>bf hr.row (i:=j) (by omega) (L:=L)
  have g2:=fun L=>bf hr.row (i:=a) (by omega) (L:=L)
  have w1:=fun L=>gm hr hlim (i:=j) (by omega) (L:=L) (gO l' a)
  have w2:=fun L=>gk hr hlim (i:=j) (j:=a) (by omega) (L:=L)
  have hr4:=hr.swap (i:=j) (j:=a) (by omega) (by omega)
  have hps:=hp.trans (aY (l:=l') (i:=j) (j:=a) (a:=a) (b:=e) ⟨by omega,by omega⟩ ⟨by omega,by omega⟩ (by omega))
  simp (disch:=omega) [f0,f1,f10,f11,hgt,ae,g1,g2,w1,w2,bF,-ah,-aD,-ag]
  exact hK _ _ j true hr4 hps (hI.done ho hij2 (by omega))
end
section
variable {T:Tbl}{lim:Nat}
theorem qU {o:VOper}{s:St}{K K':V->Lo->Hp->Prop}(h:si T lim o s K)(hk:∀v L H,K v L H->K' v L H):si T lim o s K':=by
 unfold si at h ⊢
 split
 ·rename_i hw
  rw [if_pos hw] at h
  split
  ·rename_i h1;rw [h1] at h;exact hk _ _ _ h
  ·rename_i h1;rw [h1] at h;exact h.mono fun v H=>hk _ _ _
  ·rename_i h1;rw [h1] at h;exact h
 ·rename_i hw
  rw [if_neg hw] at h;exact hk _ _ _ h
theorem lY:∀{l:List VOper} {s:St} {K K':St->Prop},jp T lim l K s->(∀s,K s->K' s)->jp T lim l K' s
 | [],s,K,K',h,hk=>hk _ h
 | o :: l,s,K,K',h,hk=>qU h fun _ _ _ h2=>lY h2 hk
theorem tQ:∀{l:List VOper} {k:Nat} {acc:List (Nat×Nat)} {s:St} {K K':St->Prop},fO T k l acc K s->(∀s,K s->K' s)->fO T k l acc K' s
 | [],k,acc,s,K,K',h,hk=>hk _ h
 | o :: l,k,acc,s,K,K',h,hk=>by
   simp only [fO] at h ⊢
   split
   ·rename_i h1;rw [h1] at h;exact h
   ·rename_i h1;rw [h1] at h;exact qU h fun _ _ _ h2=>tQ h2 hk
theorem re:∀{l:List VOper} {k:Nat} {acc:List (Nat×Nat)} {hp:eB} {s:St} {K K':St->Prop},fg T lim k l acc hp K s->(∀s,K s->K' s)->fg T lim k l acc hp K' s
 | [],k,acc,hp,s,K,K',h,hk=>hk _ h
 | o :: l,k,acc,hp,s,K,K',h,hk=>by
   simp only [fg] at h ⊢
   split
   ·rename_i h1;rw [h1] at h;exact h
   ·rename_i h1;rw [h1] at h;exact qU h fun _ _ _ h2=>re h2 hk
theorem eu:∀{c:VCode} {Q Q':VExit->St->Prop} {s:St},bx T lim c Q s->(∀e s,Q e s->Q' e s)->bx T lim c Q' s
 | .skip,Q,Q',s,h,hq=>hq _ _ h
 | .reg ops,Q,Q',s,h,hq=>lY h fun s=>hq _ s
 | .draw hd t,Q,Q',s,h,hq=>tQ h fun s h2=>lY h2 fun s=>hq _ s
 | .drawS hd t,Q,Q',s,h,hq=>re h fun s h2=>lY h2 fun s=>hq _ s
 | .seq a b,Q,Q',s,h,hq=>eu (c:=a) h fun e s h2=>by
   cases e with
   | normal=>exact eu (c:=b) h2 hq
   | exit id=>exact hq _ _ h2
   | ret=>exact hq _ _ h2
 | .cond c a b,Q,Q',s,h,hq=>by
   simp only [bx] at h ⊢
   split
   ·rename_i h1;rw [h1] at h;exact eu (c:=a) h hq
   ·rename_i h1;rw [h1] at h;exact eu (c:=b) h hq
   ·rename_i h1 h2
    split at h
    ·rename_i h3;exact absurd h3 h1
    ·rename_i h3;exact absurd h3 h2
    ·exact h
 | .block id body,Q,Q',s,h,hq=>eu (c:=body) h fun e s h2=>by
   cases e with
   | normal=>exact hq _ _ h2
   | exit id' =>
     simp only [iC] at h2 ⊢
     split
     ·rename_i h3;rw [if_pos h3] at h2;exact hq _ _ h2
     ·rename_i h3;rw [if_neg h3] at h2;exact hq _ _ h2
   | ret=>exact hq _ _ h2
 | .loop body,Q,Q',s,h,hq=>by
   obtain ⟨n,e,s',h1,h2⟩:=h
   exact ⟨n,e,s',h1,hq _ _ h2⟩
 | .scope body,Q,Q',s,h,hq=>eu (c:=body) h hq
 | .exit id,Q,Q',s,h,hq=>hq _ _ h
 | .ret,Q,Q',s,h,hq=>hq _ _ h
 | .stuck,Q,Q',s,h,hq=>h
 | .rangeF gg f ps nt,Q,Q',s,h,hq=>by
   simp only [bx] at h ⊢
   split
   ·rename_i h1
    rw [h1] at h
    exact ⟨h.1,h.2.mono fun _ H2 ⟨f2,ps2,fr2,h3,h4⟩=>⟨f2,ps2,fr2,h3,hq _ _ h4⟩⟩
   ·rename_i h1
    split at h
    ·rename_i h3;exact absurd h3 (h1 _ _ _)
    ·exact h
theorem cy {c:Bool}{X Y:VCode}{Q:VExit->St->Prop}{s:St}(P:Fr->Lo->Hp->Prop)(hX:c=true->bx T lim X (kV (fun s'=>P s'.fr s'.L s'.H) Q) s)(hY:c=false->bx T lim Y (kV (fun s'=>P s'.fr s'.L s'.H) Q) s)
 (hR:∀fr L H,P fr L H->Q .normal ⟨fr,L,H⟩):tT T lim (.bool c) X Y Q s:=by
 have hm:∀e s,kV (fun s'=>P s'.fr s'.L s'.H) Q e s->Q e s:=fun e s h=>by
  cases e with
  | normal=>exact hR _ _ _ h
  | exit id=>exact h
  | ret=>exact h
 cases c with
 | true=>exact eu (hX rfl) hm
 | false=>exact eu (hY rfl) hm
theorem kE {A B:VCode}{Q:VExit->St->Prop}{s:St}(P:Fr->Lo->Hp->Prop)(hA:bx T lim A (kV (fun s'=>P s'.fr s'.L s'.H) Q) s)(hR:∀fr L H,P fr L H->bx T lim B Q ⟨fr,L,H⟩):bx T lim (.seq A B) Q s :=
 eu (c:=A) hA fun e s h=>by
  cases e with
  | normal=>exact hR _ _ _ h
  | exit id=>exact h
  | ret=>exact h
end
section
variable {lim:Nat}{H H0:Hp}{K:V->Hp->Prop}{b:Nat}{l l0:List EO}
theorem Fl (hs:SoS b H0 l0 l H) (hlim:lim≤b) (ho:Ordr cfI) {a e v:Nat} (hae:a≤v∧v<e∧e≤l0.length) (hl:l0.length≤100000)
 (hmin:∀k,a<=k->k<e->leC cfI (l.getD v default) (l.getD k default))
 (hK:∀H' l' m,SoS b H0 l0 l' H'->PermR a e l l'->(a<m/\m<=e)->(∀p q,a<=p->p<m->p<q->q<e->leC cfI (l'.getD p default) (l'.getD q default))->K (.int .i64 (m:Nat)) H'):aF tbl lim 90 [.sl b 0 l0.length 1,.int .i64 a,.int .i64 e,.int .i64 v] H K:=by
 refine ao tbl_at90 rfl ?_
 have hn:=hs.n
 have g1:=fun L=>bf hs.row (i:=a) (by omega) (L:=L)
 have g2:=fun L=>bf hs.row (i:=v) (by omega) (L:=L)
 have w1:=fun L=>gm hs hlim (i:=a) (by omega) (L:=L) (gO l v)
 have w2:=fun L=>gk hs hlim (i:=a) (j:=v) (by omega) (L:=L)
 have hs1:=hs.swap (i:=a) (j:=v) (by omega) (by omega)
 have hp1:PermR a e l (swp l a v):=aY ⟨by omega,by omega⟩ ⟨by omega,by omega⟩ (by omega)
 have e0:(e:Int)-1=((e-1:Nat):Int):=by omega
 have hm1:=sN (cf:=cfI) (l:=l) (a:=a) (b:=e) (v:=v) (by omega) (by omega) hmin
 simp (disch:=omega) [vf90,ae,g1,g2,w1,w2,bF,e0,-ah,-aD,-ag]
 refine bK (n:=(e-a)) (fun m fr L H'=>∃l' i j,(fr 0=.sl b 0 l0.length 1/\fr 1=.int .i64 a/\fr 9=.int .i64 (i:Nat)/\fr 10=.int .i64 (j:Nat))/\L=[]/\SoS b H0 l0 l' H'/\PermR a e l l'/\PeI cfI a e i j l'/\j+1-i<=m/\m<=(e-a)) ⟨swp l a v,a+1,e-1,by simp,rfl,hs1,hp1,PeI.start (by omega) hm1,by omega,Nat.le_refl _⟩ ?_
 rintro n fr L H' ⟨l',i,j,⟨f0,f1,f9,f10⟩,rfl,hr,hp,hI,hm,hn2⟩
 simp [f0,f1,f9,f10]
 refine b9 2 (fun fr L H'=>∃l' i j,(fr 0=.sl b 0 l0.length 1/\fr 1=.int .i64 a/\fr 9=.int .i64 (i:Nat)/\fr 10=.int .i64 (j:Nat))/\L=[]/\SoS b H0 l0 l' H'/\PermR a e l l'/\PeI cfI a e i j l'/\j+1-i<=n/\(i<=j->cfI (gO l' a) (gO l' i)<0)) ?_ ?_
 ·refine bK (n:=n) (fun m fr L H'=>∃l' i j,(fr 0=.sl b 0 l0.length 1/\fr 1=.int .i64 a/\fr 9=.int .i64 (i:Nat)/\fr 10=.int .i64 (j:Nat))/\L=[]/\SoS b H0 l0 l' H'/\PermR a e l l'/\PeI cfI a e i j l'/\j+1-i<=m/\m<=n) ⟨l',i,j,by simp [f0,f1,f9,f10],rfl,hr,hp,hI,hm,Nat.le_refl _⟩ ?_
  clear f0 f1 f9 f10 hr hp hI hm l' i j
  rintro m fr L H' ⟨l',i,j,⟨f0,f1,f9,f10⟩,rfl,hr,hp,hI,hm,hm2⟩
  have hrg:=hI.rng
  have hlen:=hp.len
  by_cases hij:i<=j
  ·have hgt:((i:Int)<=(j:Int))=True:=eq_true (by omega)
   have g1:=fun L=>bf hr.row (i:=a) (by omega) (L:=L)
   have g2:=fun L=>bf hr.row (i:=i) (by omega) (L:=L)
   simp (disch:=omega) [f0,f1,f9,f10,hgt,ae,g1,g2,bF,-ah,-ag]
   refine dq hr (i:=a) (j:=i) (by omega) (by omega) fun H2 x2 hr2 => ?_
   simp
   refine bM (fun hlt => ?_) fun hlt => ?_
   ·simp (disch:=omega) [f0,f1,f9,f10,ae]
    exact ⟨m-1,by omega,l',i+1,j,by omega,hr2,hp,hI.up hij hlt,by omega,by omega⟩
   ·simp [f0,f1,f9,f10]
    exact ⟨l',i,j,by omega,hr2,hp,hI,by omega,fun _=>hlt⟩
  ·have hgt:((i:Int)<=(j:Int))=False:=eq_false (by omega)
   simp (disch:=omega) [f0,f1,f9,f10,hgt]
   exact ⟨l',i,j,by omega,hr,hp,hI,by omega,fun h=>absurd h hij⟩
 clear f0 f1 f9 f10 hr hp hI hm l' i j
 rintro fr L H' ⟨l',i,j,⟨f0,f1,f9,f10⟩,rfl,hr,hp,hI,hm,hup⟩
 simp [f0,f1,f9,f10]
 refine b9 4 (fun fr L H'=>∃l' i j,(fr 0=.sl b 0 l0.length 1/\fr 1=.int .i64 a/\fr 9=.int .i64 (i:Nat)/\fr 10=.int .i64 (j:Nat))/\L=[]/\SoS b H0 l0 l' H'/\PermR a e l l'/\PeI cfI a e i j l'/\j+1-i<=n/\(i<=j->cfI (gO l' a) (gO l' i)<0)/\(i<=j->¬cfI (gO l' a) (gO l' j)<0)) ?_ ?_
 ·refine bK (n:=n) (fun m fr L H'=>∃l' i j,(fr 0=.sl b 0 l0.length 1/\fr 1=.int .i64 a/\fr 9=.int .i64 (i:Nat)/\fr 10=.int .i64 (j:Nat))/\L=[]/\SoS b H0 l0 l' H'/\PermR a e l l'/\PeI cfI a e i j l'/\(i<=j->cfI (gO l' a) (gO l' i)<0)/\j+1-i<=m/\m<=n) ⟨l',i,j,by simp [f0,f1,f9,f10],rfl,hr,hp,hI,hup,hm,Nat.le_refl _⟩ ?_
  clear f0 f1 f9 f10 hr hp hI hup hm l' i j
  rintro m fr L H' ⟨l',i,j,⟨f0,f1,f9,f10⟩,rfl,hr,hp,hI,hup,hm,hm2⟩
  have hrg:=hI.rng
  have hlen:=hp.len
  by_cases hij:i<=j
  ·have hgt:((i:Int)<=(j:Int))=True:=eq_true (by omega)
   have g1:=fun L=>bf hr.row (i:=a) (by omega) (L:=L)
   have g2:=fun L=>bf hr.row (i:=j) (by omega) (L:=L)
   simp (disch:=omega) [f0,f1,f9,f10,hgt,ae,g1,g2,bF,-ah,-ag]
   refine dq hr (i:=a) (j:=j) (by omega) (by omega) fun H2 x2 hr2 => ?_
   simp
   refine aC (fun hlt => ?_) fun hlt => ?_
   ·have e1:(j:Int)-1=((j-1:Nat):Int):=by omega
    simp (disch:=omega) [f0,f1,f9,f10,e1,ae]
    exact ⟨m-1,by omega,l',i,j-1,by omega,hr2,hp,hI.down hij,fun h=>hup (by omega),by omega,by omega⟩
   ·simp [f0,f1,f9,f10]
    exact ⟨l',i,j,by omega,hr2,hp,hI,by omega,hup,fun _=>by omega⟩
  ·have hgt:((i:Int)<=(j:Int))=False:=eq_false (by omega)
   simp (disch:=omega) [f0,f1,f9,f10,hgt]
   exact ⟨l',i,j,by omega,hr,hp,hI,by omega,fun h=>absurd h hij,fun h=>absurd h hij⟩
 clear f0 f1 f9 f10 hr hp hI hup hm l' i j
 rintro fr L H' ⟨l',i,j,⟨f0,f1,f9,f10⟩,rfl,hr,hp,hI,hm,hup,hdn⟩
 have hrg:=hI.rng
 have hlen:=hp.len
 by_cases hij:i<=j
 ·have hgt:((j:Int)<(i:Int))=False:=eq_false (by omega)
  have hi0:=hup hij
  have hj0:=hdn hij
  have g1:=fun L=>bf hr.row (i:=i) (by omega) (L:=L)
  have g2:=fun L=>bf hr.row (i:=j) (by omega) (L:=L)
  have w1:=fun L=>gm hr hlim (i:=i) (by omega) (L:=L) (gO l' j)
  have w2:=fun L=>gk hr hlim (i:=i) (j:=j) (by omega) (L:=L)
  have hr4:=hr.swap (i:=i) (j:=j) (by omega) (by omega)
  have hps:=hp.trans (aY (l:=l') (i:=i) (j:=j) (a:=a) (b:=e) ⟨by omega,by omega⟩ ⟨by omega,by omega⟩ (by omega))
  have hI2:=hI.swap ho hij (by omega) hi0 hj0
  have hrg2:=hI2.rng
  have e1:(j:Int)-1=((j-1:Nat):Int):=by omega
  simp (disch:=omega) [f0,f1,f9,f10,hgt,e1,ae,g1,g2,w1,w2,bF,-ah,-aD,-ag]
  exact ⟨n-1,by omega,_,i+1,j-1,by omega,hr4,hps,hI2,by omega,by omega⟩
 ·have hgt:((j:Int)<(i:Int))=True:=eq_true (by omega)
  simp [f0,f1,f9,f10,hgt]
  exact hK _ _ i hr hp (by omega) (hI.done ho)
end
end Go.Proofs.YtgjlhdggllakbaaGreatDoor.Vm
namespace Go.Proofs.YtgjlhdggllakbaaGreatDoor.Vm
open Go
set_option maxRecDepth 100000
attribute [-simp] List.getD_eq_getElem?_getD
def BR:ByteArray:=⟨#[0,1,2,2,3,3,3,3,4,4,4,4,4,4,4,4,5,5,5,5,5,5,5,5,5,5,5,5,5,5,5,5,6,6,6,6,6,6,6,6,6,6,6,6,6,6,6,6,6,6,6,6,6,6,6,6,6,6,6,6,6,6,6,6,7,7,7,7,7,7,7,7,7,7,7,7,7,7,7,7,7,7,7,7,7,7,7,7,7,7,7,7,7,7,7,7,7,7,7,7,7,7,7,7,7,7,7,7,7,7,7,7,7,7,7,7,7,7,7,7,7,7,7,7,7,7,7,7,8,8,8,8,8,8,8,8,8,8,8,8,8,8,8,8,8,8,8,8,8,8,8,8,8,8,8,8,8,8,8,8,8,8,8,8,8,8,8,8,8,8,8,8,8,8,8,8,8,8,8,8,8,8,8,8,8,8,8,8,8,8,8,8,8,8,8,8,8,8,8,8,8,8,8,8,8,8,8,8,8,8,8,8,8,8,8,8,8,8,8,8,8,8,8,8,8,8,8,8,8,8,8,8,8,8,8,8,8,8,8,8,8,8,8,8,8,8,8,8,8,8,8,8,8,8,8,8]⟩
def bl8 (t:Nat):Nat:=if t<1 then 0 else if t<2 then 1 else if t<4 then 2 else if t<8 then 3 else if t<16 then 4 else if t<32 then 5 else if t<64 then 6 else if t<128 then 7 else 8
theorem Jw:∀t,t<256->BR.data.toList.getD t 0=UInt8.ofNat (bl8 t):=by decide +kernel
theorem uM {t:Nat}(h:t<256):dV (.str BR) (.int .u8 (t:Int))=some (.int .u8 (bl8 t:Nat)):=by
 have hz:BR.size=256:=by decide +kernel
 simp only [dV,eK]
 rw [if_pos (by omega)]
 have e:=Jw t h
 have hb:bl8 t<256:=by unfold bl8;(repeat' split)<;>omega
 have:BR.data.getD ((t:Int)).toNat 0=UInt8.ofNat (bl8 t):=by
  rw [Int.toNat_natCast,←e,Array.getD_eq_getD_getElem?,List.getD_eq_getElem?_getD,Array.getElem?_toList]
 rw [this]
 congr 2
 simp;omega
def pw (n:Nat):Nat:=if n<256 then bl8 n else if n<65536 then 8+bl8 (n / 256) else 16+bl8 (n / 65536)
theorem nq (t:Nat):bl8 t<=8:=by unfold bl8;(repeat' split)<;>omega
theorem fdN {n m:Nat}:Int.fdiv (n:Int) (m:Int)=((n / m:Nat):Int):=by
 rw [Int.fdiv_eq_ediv_of_nonneg _ (by omega)];rfl
theorem RB {n:Nat}:bU .shr (.int .u64 (n:Int)) (.int .u64 8)=some (.int .u64 ((n / 256:Nat):Int)):=by
 show some (V.int .u64 (Int.fdiv (n:Int) ((256:Nat):Int)))=_
 rw [fdN]
theorem Qi {n:Nat}:bU .shr (.int .u64 (n:Int)) (.int .u64 16)=some (.int .u64 ((n / 65536:Nat):Int)):=by
 show some (V.int .u64 (Int.fdiv (n:Int) ((65536:Nat):Int)))=_
 rw [fdN]
theorem Dm {H:Hp}{lim n:Nat}{K:V->Hp->Prop}(hn:n<=1000000)(hK:K (.int .i64 (pw n:Nat)) H):aF tbl lim 93 [.int .u64 (n:Int)] H K:=by
 refine ao tbl_at93 rfl ?_
 have c1:((4294967296:Int)<=(n:Int))=False:=eq_false (by omega)
 have k8:bU .shr (.int .u64 (n:Int)) (.int .u64 8)=some (.int .u64 ((n / 256:Nat):Int)):=RB
 have k16:bU .shr (.int .u64 (n:Int)) (.int .u64 16)=some (.int .u64 ((n / 65536:Nat):Int)):=Qi
 unfold pw at hK
 by_cases h1:n<256
 ·have c2:((65536:Int)<=(n:Int))=False:=eq_false (by omega)
  have c3:((256:Int)<=(n:Int))=False:=eq_false (by omega)
  have w1:IntKind.wrap .u8 (n:Int)=(n:Int):=by simp [IntKind.wrap,IntKind.bits,IntKind.signed];omega
  have ht:=uM h1
  simp only [BR] at ht
  rw [if_pos h1] at hK
  have hb:=nq n
  simp (disch:=omega) [vf93,c1,c2,c3,w1,ht,ae]
  exact hK
 rw [if_neg h1] at hK
 by_cases h2:n<65536
 ·have c2:((65536:Int)<=(n:Int))=False:=eq_false (by omega)
  have c3:((256:Int)<=(n:Int))=True:=eq_true (by omega)
  rw [if_pos h2] at hK
  obtain ⟨m,hm⟩:∃m,m=n / 256:=⟨_,rfl⟩
  rw [←hm] at k8 hK
  have w1:IntKind.wrap .u8 (m:Int)=(m:Int):=by simp [IntKind.wrap,IntKind.bits,IntKind.signed];omega
  have ht:=uM (t:=m) (by omega)
  simp only [BR] at ht
  have hb:=nq m
  simp (disch:=omega) [vf93,c1,c2,c3,w1,ht,k8,ae]
  have e:((8+bl8 m:Nat):Int)=8+(bl8 m:Int):=by omega
  rw [e] at hK
  exact hK
 ·have c2:((65536:Int)<=(n:Int))=True:=eq_true (by omega)
  rw [if_neg h2] at hK
  obtain ⟨m,hm⟩:∃m,m=n / 65536:=⟨_,rfl⟩
  rw [←hm] at k16 hK
  have c3:((256:Int)<=(m:Int))=False:=eq_false (by omega)
  have w1:IntKind.wrap .u8 (m:Int)=(m:Int):=by simp [IntKind.wrap,IntKind.bits,IntKind.signed];omega
  have ht:=uM (t:=m) (by omega)
  simp only [BR] at ht
  have hb:=nq m
  simp (disch:=omega) [vf93,c1,c2,c3,w1,ht,k16,ae]
  have e:((16+bl8 m:Nat):Int)=16+(bl8 m:Int):=by omega
  rw [e] at hK
  exact hK
section
variable {lim:Nat}{H:Hp}{K:V->Hp->Prop}
theorem Rt:∀x:Nat,x<256->0<x->x<2 ^ bl8 x/\2 ^ bl8 x<=2*x:=by decide +kernel
theorem AZ {x:Nat}(hx:x<256)(hK:K (.int .i64 (bl8 x:Nat)) H):aF tbl lim 72 [.int .u64 (x:Int)] H K:=by
 refine ao tbl_at72 rfl ?_
 have w:IntKind.wrap .u64 (x:Int)=(x:Int):=by simp [IntKind.wrap,IntKind.bits,IntKind.signed];omega
 simp [vf72,w]
 refine Dm (by omega) ?_
 have e:pw x=bl8 x:=by unfold pw;rw [if_pos hx]
 rw [e]
 simp
 exact hK
theorem Mj {x:Nat}(hx:0<x/\x<256)(hlim:lim<=H.length)(hK:∀m:Nat,x<m->m<=2*x->K (.int .u64 m) H):aF tbl lim 114 [.int .i64 x] H K:=by
 refine ao tbl_at114 rfl ?_
 have w:IntKind.wrap .u64 (x:Int)=(x:Int):=by simp [IntKind.wrap,IntKind.bits,IntKind.signed];omega
 simp [vf114,w]
 refine AZ hx.2 ?_
 have h8:=nq x
 obtain ⟨p1,p2⟩:=Rt x hx.2 hx.1
 obtain ⟨s,hs⟩:∃s,s=bl8 x:=⟨_,rfl⟩
 rw [←hs] at p1 p2 h8 ⊢
 clear hs
 rcases (show s=0\/s=1\/s=2\/s=3\/s=4\/s=5\/s=6\/s=7\/s=8 by omega) with rfl | rfl | rfl | rfl | rfl | rfl | rfl | rfl | rfl
 ·simp [IntKind.wrap,IntKind.bits,IntKind.signed]
  exact hK 1 (by omega) (by omega)
 ·simp [IntKind.wrap,IntKind.bits,IntKind.signed]
  exact hK 2 (by omega) (by omega)
 ·simp [IntKind.wrap,IntKind.bits,IntKind.signed]
  exact hK 4 (by omega) (by omega)
 ·simp [IntKind.wrap,IntKind.bits,IntKind.signed]
  exact hK 8 (by omega) (by omega)
 ·simp [IntKind.wrap,IntKind.bits,IntKind.signed]
  exact hK 16 (by omega) (by omega)
 ·simp [IntKind.wrap,IntKind.bits,IntKind.signed]
  exact hK 32 (by omega) (by omega)
 ·simp [IntKind.wrap,IntKind.bits,IntKind.signed]
  exact hK 64 (by omega) (by omega)
 ·simp [IntKind.wrap,IntKind.bits,IntKind.signed]
  exact hK 128 (by omega) (by omega)
 ·simp [IntKind.wrap,IntKind.bits,IntKind.signed]
  exact hK 256 (by omega) (by omega)
end
end Go.Proofs.YtgjlhdggllakbaaGreatDoor.Vm
namespace Go.Proofs.YtgjlhdggllakbaaGreatDoor.Vm
open Go
set_option maxRecDepth 100000
set_option maxHeartbeats 1000000
attribute [-simp] List.getD_eq_getElem?_getD
section
variable {lim:Nat}{H H0:Hp}{K:V->Hp->Prop}{b:Nat}{l l0:List EO}
theorem QM (hs:SoS b H0 l0 l H) (hlim:lim≤b) (ho:Ordr cfI) {a e:Nat} (hae:a<e∧e≤l0.length) (hl:l0.length≤100000) (hg:GdR cfI a e l)
 (hK:∀H' l' ok,SoS b H0 l0 l' H'->PermR a e l l'->(ok=true->br cfI a e l')->K (.bool ok) H'):aF tbl lim 88 [.sl b 0 l0.length 1,.int .i64 a,.int .i64 e] H K:=by
 refine ao tbl_at88 rfl ?_
 have hn:=hs.n
 simp (disch:=omega) [vf88,ae]
 refine aO 5 (fun c fr L H'=>∃l' i,(fr 0=.sl b 0 l0.length 1/\fr 1=.int .i64 a/\fr 2=.int .i64 e/\fr 7=.int .i64 (i:Nat)/\fr 8=.int .i64 (c:Nat))/\L=[]/\SoS b H0 l0 l' H'/\PermR a e l l'/\(a+1<=i/\i<=e)/\br cfI a i l') ⟨l,a+1,by simp,rfl,hs,PermR.refl,by omega,br.one (by omega)⟩ ?_
 rintro c hc5 fr L H' ⟨l',i,⟨f0,f1,f2,f7,f8⟩,rfl,hr,hp,hi,hso⟩
 simp [f0,f1,f2,f7,f8]
 refine aC (fun ht => ?_) fun ht => ?_
 case refine_2 =>
  simp
  exact hK _ _ false hr hp (fun h=>by cases h)
 simp [f0,f1,f2,f7,f8]
 refine b9 2 (fun fr L H'=>∃l' i,(fr 0=.sl b 0 l0.length 1/\fr 1=.int .i64 a/\fr 2=.int .i64 e/\fr 7=.int .i64 (i:Nat)/\fr 8=.int .i64 (c:Nat))/\L=[]/\SoS b H0 l0 l' H'/\PermR a e l l'/\(a+1<=i/\i<=e)/\br cfI a i l'/\(i<e->cfI (gO l' i) (gO l' (i-1))<0)) ?_ ?_
 ·refine bK (n:=e-i) (fun m fr L H'=>∃l' i,(fr 0=.sl b 0 l0.length 1/\fr 1=.int .i64 a/\fr 2=.int .i64 e/\fr 7=.int .i64 (i:Nat)/\fr 8=.int .i64 (c:Nat))/\L=[]/\SoS b H0 l0 l' H'/\PermR a e l l'/\(a+1<=i/\i<=e)/\br cfI a i l'/\m=e-i) ⟨l',i,by simp [f0,f1,f2,f7,f8],rfl,hr,hp,hi,hso,rfl⟩ ?_
  clear f0 f1 f2 f7 f8 hr hp hi hso l' i
  rintro m fr L H' ⟨l',i,⟨f0,f1,f2,f7,f8⟩,rfl,hr,hp,hi,hso,hm⟩
  have hlen:=hp.len
  by_cases hie:i<e
  ·have hgt:((i:Int)<(e:Int))=True:=eq_true (by omega)
   have e1:((i:Int)-1).toNat=i-1:=by omega
   have g1:=fun L=>bf hr.row (i:=i) (by omega) (L:=L)
   have g2:=fun L=>bf hr.row (i:=i-1) (by omega) (L:=L)
   simp (disch:=omega) [f0,f1,f2,f7,f8,hgt,e1,ae,g1,g2,bF,-ah,-ag]
   refine dq hr (i:=i) (j:=i-1) (by omega) (by omega) fun H2 x2 hr2 => ?_
   simp
   refine bM (fun hlt => ?_) fun hlt => ?_
   ·simp (disch:=omega) [f0,f1,f2,f7,f8,ae]
    exact ⟨m-1,by omega,l',i+1,by omega,hr2,hp,by omega,hso.next ho (by omega) hlt,by omega⟩
   ·simp [f0,f1,f2,f7,f8]
    exact ⟨l',i,by omega,hr2,hp,by omega,hso,fun _=>hlt⟩
  ·have hgt:((i:Int)<(e:Int))=False:=eq_false (by omega)
   simp (disch:=omega) [f0,f1,f2,f7,f8,hgt]
   exact ⟨l',i,by omega,hr,hp,by omega,hso,fun h=>absurd h hie⟩
 clear f0 f1 f2 f7 f8 hr hp hi hso l' i
 rintro fr L H' ⟨l',i,⟨f0,f1,f2,f7,f8⟩,rfl,hr,hp,hi,hso,hlt⟩
 have hlen:=hp.len
 simp [f0,f1,f2,f7,f8]
 by_cases hie:i=e
 ·subst hie
  simp
  exact hK _ _ true hr hp fun _=>hso
 have hie2:((i:Int)=(e:Int))=False:=eq_false (by omega)
 replace hlt:=hlt (by omega)
 simp (disch:=omega) [hie,hie2,f0,f1,f2,f7,f8,ae]
 refine aC (fun h50 => ?_) fun h50 => ?_
 ·simp
  exact hK _ _ false hr hp (fun h=>by cases h)
 have e1:((i:Int)-1).toNat=i-1:=by omega
 have g1:=fun L=>bf hr.row (i:=i) (by omega) (L:=L)
 have g2:=fun L=>bf hr.row (i:=i-1) (by omega) (L:=L)
 have w1:=fun L=>gm hr hlim (i:=i) (by omega) (L:=L) (gO l' (i-1))
 have w2:=fun L=>gk hr hlim (i:=i) (j:=i-1) (by omega) (L:=L)
 have hr4:=hr.swap (i:=i) (j:=i-1) (by omega) (by omega)
 have hps:=hp.trans (aY (l:=l') (i:=i) (j:=i-1) (a:=a) (b:=e) ⟨by omega,by omega⟩ ⟨by omega,by omega⟩ (by omega))
 have hso1:br cfI a (i-1) (swp l' i (i-1)):=br.keep (fun p q h1 h2 h3=>hso p q h1 h2 (by omega)) fun k hk=>by rw [d9 (by omega) (by omega),if_neg (by omega),if_neg (by omega)]
 simp (disch:=omega) [f0,f1,f2,f7,f8,e1,ae,g1,g2,w1,w2,bF,-ah,-aD,-ag]
 generalize swp l' i (i-1)=l1 at *
 generalize H'.set b (mD l1)=H1 at *
 clear g1 g2 w1 w2 hr hp hso hlt hlen
 refine cy (fun fr L H'=>∃l',(fr 0=.sl b 0 l0.length 1/\fr 1=.int .i64 a/\fr 2=.int .i64 e/\fr 7=.int .i64 (i:Nat)/\fr 8=.int .i64 (c:Nat))/\L=[]/\SoS b H0 l0 l' H'/\PermR a e l l'/\br cfI a i l') (fun h2 => ?_) (fun h2 => ?_) ?_
 ·simp (disch:=omega) [f0,f1,f2,f7,f8,ae]
  refine bK (n:=i-1) (fun m fr L H'=>∃l',(fr 0=.sl b 0 l0.length 1/\fr 1=.int .i64 a/\fr 2=.int .i64 e/\fr 7=.int .i64 (i:Nat)/\fr 8=.int .i64 (c:Nat)/\fr 9=.int .i64 (m:Nat))/\L=[]/\SoS b H0 l0 l' H'/\PermR a e l l'/\gJ cfI a (i-1) m l'/\a<=m/\m<=i-1) ⟨l1,by simp [f0,f1,f2,f7,f8];omega,rfl,hr4,hps,gJ.start hso1,by omega,Nat.le_refl _⟩ ?_
  clear f0 f1 f2 f7 f8
  rintro m fr L H' ⟨l',⟨f0,f1,f2,f7,f8,f9⟩,rfl,hr,hp,hI,ha,hm⟩
  have hlen:=hp.len
  simp [f0,f1,f2,f7,f8,f9]
  refine aC (fun h1 => ?_) fun h1 => ?_
  ·have e2:((m:Int)-1).toNat=m-1:=by omega
   have g1:=fun L=>bf hr.row (i:=m) (by omega) (L:=L)
   have g2:=fun L=>bf hr.row (i:=m-1) (by omega) (L:=L)
   simp (disch:=omega) [f0,f1,f2,f7,f8,f9,e2,ae,g1,g2,bF,-ah,-ag]
   refine dq hr (i:=m) (j:=m-1) (by omega) (by omega) fun H2 x2 hr2 => ?_
   simp
   refine bM (fun hlt => ?_) fun hlt => ?_
   ·have hd:=hI.done ho ha hm (Or.inr hlt)
    rw [show i-1+1=i by omega] at hd
    simp [f0,f1,f2,f7,f8]
    exact ⟨l',hr2,hp,hd⟩
   ·have ham:a<m:=by
     apply Classical.byContradiction
     intro hn2
     have:m=a:=by omega
     subst this
     exact hg.perm hp (Nat.le_refl _) (Nat.le_refl _) (by omega) (by omega) m (Nat.le_refl _) (by omega) hlt
    have g1:=fun L=>bf hr2.row (i:=m) (by omega) (L:=L)
    have g2:=fun L=>bf hr2.row (i:=m-1) (by omega) (L:=L)
    have w1:=fun L=>gm hr2 hlim (i:=m) (by omega) (L:=L) (gO l' (m-1))
    have w2:=fun L=>gk hr2 hlim (i:=m) (j:=m-1) (by omega) (L:=L)
    have hr5:=hr2.swap (i:=m) (j:=m-1) (by omega) (by omega)
    have hsw:=gJ.swap ho hI (by omega) (by omega) (by omega) hlt
    have hps5:=hp.trans (aY (l:=l') (i:=m) (j:=m-1) (a:=a) (b:=e) ⟨by omega,by omega⟩ ⟨by omega,by omega⟩ (by omega))
    have e3:(m:Int)-1=((m-1:Nat):Int):=by omega
    simp (disch:=omega) [f0,f1,f2,f7,f8,f9,e2,ae,g1,g2,w1,w2,bF,-ah,-aD,-ag]
    exact ⟨m-1,by omega,by omega,swp l' m (m-1),hr5,hps5,hsw,by omega,by omega⟩
  ·have hd:=hI.done ho ha hm (Or.inl (by omega))
   rw [show i-1+1=i by omega] at hd
   simp [f0,f1,f2,f7,f8]
   exact ⟨l',hr,hp,hd⟩
 ·simp [f0,f1,f2,f7,f8]
  exact ⟨l1,hr4,hps,br.one (by simp at h2;omega)⟩
 clear f0 f1 f2 f7 f8 hr4 hps hso1 l1 H1
 rintro fr L H' ⟨l',⟨f0,f1,f2,f7,f8⟩,rfl,hr,hp,hso⟩
 simp (disch:=omega) [f0,f1,f2,f7,f8,ae]
 refine cy (fun fr L H'=>∃l',(fr 0=.sl b 0 l0.length 1/\fr 1=.int .i64 a/\fr 2=.int .i64 e/\fr 7=.int .i64 (i:Nat)/\fr 8=.int .i64 (c:Nat))/\L=[]/\SoS b H0 l0 l' H'/\PermR a e l l'/\br cfI a i l') (fun h2 => ?_) (fun h2 => ?_) ?_
 ·simp (disch:=omega) [f0,f1,f2,f7,f8,ae]
  refine aO (e-(i+1)) (fun m fr L H'=>∃l',(fr 0=.sl b 0 l0.length 1/\fr 1=.int .i64 a/\fr 2=.int .i64 e/\fr 7=.int .i64 (i:Nat)/\fr 8=.int .i64 (c:Nat)/\fr 10=.int .i64 ((i+1+m:Nat):Int))/\L=[]/\SoS b H0 l0 l' H'/\PermR a e l l'/\br cfI a i l') ⟨l',by simp [f0,f1,f2,f7,f8],rfl,hr,hp,hso⟩ ?_
  clear f0 f1 f2 f7 f8 hr hp hso l'
  rintro m hm fr L H' ⟨l',⟨f0,f1,f2,f7,f8,f10⟩,rfl,hr,hp,hso⟩
  have hlen:=hp.len
  simp [f0,f1,f2,f7,f8,f10]
  refine aC (fun h1 => ?_) fun h1 => ?_
  ·have e2:((i:Int)+1+(m:Int)).toNat=i+1+m:=by omega
   have e3:((i:Int)+1+(m:Int)-1).toNat=i+m:=by omega
   have g1:=fun L=>bf hr.row (i:=i+1+m) (by omega) (L:=L)
   have g2:=fun L=>bf hr.row (i:=i+m) (by omega) (L:=L)
   simp (disch:=omega) [f0,f1,f2,f7,f8,f10,e2,e3,ae,g1,g2,bF,-ah,-ag]
   refine dq hr (i:=i+1+m) (j:=i+m) (by omega) (by omega) fun H2 x2 hr2 => ?_
   simp
   refine bM (fun hlt => ?_) fun hlt => ?_
   ·simp [f0,f1,f2,f7,f8]
    exact ⟨l',hr2,hp,hso⟩
   ·have g1:=fun L=>bf hr2.row (i:=i+1+m) (by omega) (L:=L)
    have g2:=fun L=>bf hr2.row (i:=i+m) (by omega) (L:=L)
    have w1:=fun L=>gm hr2 hlim (i:=i+1+m) (by omega) (L:=L) (gO l' (i+m))
    have w2:=fun L=>gk hr2 hlim (i:=i+1+m) (j:=i+m) (by omega) (L:=L)
    have hr5:=hr2.swap (i:=i+1+m) (j:=i+m) (by omega) (by omega)
    have hps5:=hp.trans (aY (l:=l') (i:=i+1+m) (j:=i+m) (a:=a) (b:=e) ⟨by omega,by omega⟩ ⟨by omega,by omega⟩ (by omega))
    have hso5:br cfI a i (swp l' (i+1+m) (i+m)):=hso.keep fun k hk=>by rw [d9 (by omega) (by omega),if_neg (by omega),if_neg (by omega)]
    simp (disch:=omega) [f0,f1,f2,f7,f8,f10,e2,e3,ae,g1,g2,w1,w2,bF,-ah,-aD,-ag]
    exact ⟨by omega,by omega,_,hr5,hps5,hso5⟩
  ·simp [f0,f1,f2,f7,f8]
   exact ⟨l',hr,hp,hso⟩
 ·simp [f0,f1,f2,f7,f8]
  exact ⟨l',hr,hp,hso⟩
 clear f0 f1 f2 f7 f8 hr hp hso l'
 rintro fr L H' ⟨l',⟨f0,f1,f2,f7,f8⟩,rfl,hr,hp,hso⟩
 simp (disch:=omega) [f0,f1,f2,f7,f8,ae]
 exact ⟨by omega,l',i,by omega,hr,hp,by omega,hso⟩
theorem QR {x:Nat}(hx:0<x/\x<256)(hlim:lim<=H.length)(hK:∀m:Nat,x<m->m<=2*x->K (.int .u64 m) H):aF tbl lim 114 [.int .i64 x] H K:=Mj hx hlim hK
theorem Nc {x:Nat}(hx:x<256)(hlim:lim<=H.length)(hK:∀m:Nat,m<=100->K (.int .i64 m) H):aF tbl lim 72 [.int .u64 x] H K :=
 AZ hx (hK _ (by have:=nq x;omega))
theorem PE {a:Int}:bU .shl (.int .u64 a) (.int .u64 13)=some (.int .u64 (IntKind.wrap .u64 (a*2 ^ 13))):=Eq.trans rfl rfl
theorem Lc {a:Int}:bU .shl (.int .u64 a) (.int .u64 17)=some (.int .u64 (IntKind.wrap .u64 (a*2 ^ 17))):=Eq.trans rfl rfl
theorem PL {a:Int}:bU .shr (.int .u64 a) (.int .u64 7)=some (.int .u64 (a.fdiv (2 ^ 7))):=Eq.trans rfl rfl
theorem Dt {s:Nat}{w:Int}(h:H[s]? = some (.row [.int .u64 w] true)){L:Lo}:aW none L H (.ptr s 0)=some (.int .u64 w):=by
 rw [bX h];rfl
theorem tq {s:Nat}{r:Blk}{z w:Int}(h:H[s]? = some (.row [.int .u64 w] true))(hl:lim<=s){L:Lo}:aD lim L H (.ptr s 0) (.int .u64 z) 1=some (L,H.set s (.row [.int .u64 z] true)):=by
 simp [aD,bW,h,hl,al]
theorem Pv {s:Nat}{w:Int}(h:H[s]? = some (.row [.int .u64 w] true))(hl:lim<=s)(hK:∀z,K (.int .u64 z) (H.set s (.row [.int .u64 z] true))):aF tbl lim 115 [.ptr s 0] H K:=by
 refine ao tbl_at115 rfl ?_
 have hb:=(List.getElem?_eq_some_iff.1 h).1
 have ld:=fun L=>Dt h (L:=L)
 have st:=fun L z=>tq (lim:=lim) (r:=.row [] true) h hl (L:=L) (z:=z)
 have row:∀z,(H.set s (.row [.int .u64 z] true))[s]? = some (.row [.int .u64 z] true):=fun z=>by simp [hb]
 have ld2:=fun z L=>Dt (row z) (L:=L)
 have st2:∀y z L,aD lim L (H.set s (.row [.int .u64 y] true)) (.ptr s 0) (.int .u64 z) 1=some (L,H.set s (.row [.int .u64 z] true)):=fun y z L=>by
  rw [tq (r:=.row [] true) (row y) hl,List.set_set]
 simp [vf115,ld,st,ld2,st2,PE,Lc,PL,xg,-aD,-ag]
 exact hK _
end
theorem L3 {x:Int}{m:Nat}(hm:0<m/\m<1000):∃o:Nat,o<m/\bU .and (.int .u64 x) (.int .u64 ((m:Int)-1))=some (.int .u64 o):=by
 have h2:(BitVec.ofInt 64 ((m:Int)-1)).toNat=m-1:=by
  rw [BitVec.toNat_ofInt];omega
 have h1:(BitVec.ofInt 64 x &&& BitVec.ofInt 64 ((m:Int)-1)).toNat<=m-1:=by
  rw [BitVec.toNat_and,h2];exact Nat.and_le_right
 refine ⟨(BitVec.ofInt 64 x &&& BitVec.ofInt 64 ((m:Int)-1)).toNat,by omega,?_⟩
 rw [Lz]
 have:IntKind.wrap .u64 (((BitVec.ofInt (IntKind.bits .u64) x &&& BitVec.ofInt (IntKind.bits .u64) ((m:Int)-1)).toNat:Nat):Int)=((BitVec.ofInt 64 x &&& BitVec.ofInt 64 ((m:Int)-1)).toNat:Nat):=by
  show IntKind.wrap .u64 (((BitVec.ofInt 64 x &&& BitVec.ofInt 64 ((m:Int)-1)).toNat:Nat):Int)=_
  generalize (BitVec.ofInt 64 x &&& BitVec.ofInt 64 ((m:Int)-1)).toNat=o at *
  simp [IntKind.wrap,IntKind.bits,IntKind.signed];omega
 rw [this]
theorem iI {n:Int}(h:0<=n/\n<1000000):IntKind.wrap .u64 n=n:=by
 simp [IntKind.wrap,IntKind.bits,IntKind.signed];omega
section
variable {lim:Nat}{H H0:Hp}{K:V->Hp->Prop}{b:Nat}{l l0:List EO}
theorem Kl (hs:SoS b H0 l0 l H)(hlim:lim<=b){a e:Nat}(hae:a+8<=e/\e<=l0.length)(hl:l0.length<256)
 (hK:∀H' l',SoS b H0 l0 l' H'->PermR a e l l'->K (.tup []) H'):aF tbl lim 85 [.sl b 0 l0.length 1,.int .i64 a,.int .i64 e] H K:=by
 refine ao tbl_at85 rfl ?_
 have hn:=hs.n
 have hb:=hs.blt
 have hle:=hs.len
 obtain ⟨d,rfl⟩:∃d,e=a+d:=⟨e-a,by omega⟩
 have e0:(a:Int)+(d:Int)-(a:Int)=(d:Int):=by omega
 have e8:((8:Int)<=(d:Int))=True:=eq_true (by omega)
 have eq4:(d:Int).tdiv 4=((d / 4:Nat):Int):=iQ _ 4
 have hd4:2*(d / 4)<=d / 2/\2<=d / 4/\4*(d / 4)<=d:=by omega
 have wu:∀k:Nat,k<256->IntKind.wrap .u64 (k:Int)=k:=fun k hk=>iI (by omega)
 have stn:∀L,aD lim L (H++[Blk.row [V.int .u64 0] true]) (.ptr H.length 0) (.int .u64 d) 1=some (L,H++[Blk.row [V.int .u64 d] true]):=fun L=>by
  rw [tq (r:=.row [] true) (w:=0) (by simp) (by omega)];simp
 simp (disch:=omega) [vf85,ae,e0,e8,eq4,wu,stn,-aD]
 have row1:(H++[Blk.row [V.int .u64 d] true])[H.length]? = some (.row [.int .u64 d] true):=by simp
 have hs1:SoS b H0 l0 l (H++[Blk.row [V.int .u64 d] true]):=hs.grow HX.push
 have hl1:H.length<(H++[Blk.row [V.int .u64 d] true]).length:=by simp
 generalize H++[Blk.row [V.int .u64 d] true]=H1 at *
 refine QR (x:=d) (by omega) (by omega) fun m hm1 hm2 => ?_
 simp (disch:=omega) [ae,e0,e8,eq4]
 refine aO 3 (fun i fr L H'=>∃l' w,(fr 0=.sl b 0 l0.length 1/\fr 1=.int .i64 a/\fr 6=.int .i64 d/\fr 7=.ptr H.length 0/\fr 8=.int .u64 m/\fr 9=.int .i64 ((a+(d / 4*2-1)+i:Nat):Int))/\L=[]/\SoS b H0 l0 l' H'/\H'[H.length]? = some (.row [.int .u64 w] true)/\PermR a (a+d) l l') ⟨l,d,by simp;omega,rfl,hs1,row1,PermR.refl⟩ ?_
 rintro i hi fr L H' ⟨l',w,⟨f0,f1,f6,f7,f8,f9⟩,rfl,hr,hw,hp⟩
 have hlen:=hp.len
 simp (disch:=omega) [f0,f1,f6,f7,f8,f9,eq4,ae]
 refine aC (fun ht => ?_) fun ht => ?_
 ·have hi2:i<3:=by omega
  simp [f0,f1,f6,f7,f8,f9]
  refine Pv hw (by omega) fun z => ?_
  have hr2:=hr.aside (s:=H.length) (r:=.row [.int .u64 z] true) hle
  have hw2:(H'.set H.length (.row [.int .u64 z] true))[H.length]? = some (.row [.int .u64 z] true):=by
   rw [List.getElem?_set_self (List.getElem?_eq_some_iff.1 hw).1]
  generalize H'.set H.length (.row [.int .u64 z] true)=H2 at *
  obtain ⟨o,ho,hand⟩:=L3 (x:=z) (m:=m) (by omega)
  have wm:IntKind.wrap .u64 ((m:Int)-1)=(m:Int)-1:=iI (by omega)
  simp (disch:=omega) [f0,f1,f6,f7,f8,f9,wm,hand,ae]
  refine cy (fun fr L H'=>∃o:Nat,(fr 0=.sl b 0 l0.length 1/\fr 1=.int .i64 a/\fr 6=.int .i64 d/\fr 7=.ptr H.length 0/\fr 8=.int .u64 m/\fr 9=.int .i64 ((a+(d / 4*2-1)+i:Nat):Int)/\fr 10=.int .i64 (o:Nat))/\L=[]/\H'=H2/\o<d) (fun h => ?_) (fun h => ?_) ?_
  ·simp at h
   simp (disch:=omega) [f0,f1,f6,f7,f8,f9,ae]
   exact ⟨o-d,by omega,by omega⟩
  ·simp at h
   simp [f0,f1,f6,f7,f8,f9]
   exact ⟨o,rfl,by omega⟩
  clear f0 f1 f6 f7 f8 f9
  rintro fr L H3 ⟨q,⟨f0,f1,f6,f7,f8,f9,f10⟩,rfl,rfl,hq⟩
  have e1:((a:Int)+((d / 4*2-1:Nat):Int)+(i:Int)).toNat=a+(d / 4*2-1)+i:=by omega
  have e2:((a:Int)+(q:Int)).toNat=a+q:=by omega
  have g1:=fun L=>bf hr2.row (i:=a+(d / 4*2-1)+i) (by omega) (L:=L)
  have g2:=fun L=>bf hr2.row (i:=a+q) (by omega) (L:=L)
  have w1:=fun L=>gm hr2 hlim (i:=a+(d / 4*2-1)+i) (by omega) (L:=L) (gO l' (a+q))
  have w2:=fun L=>gk hr2 hlim (i:=a+(d / 4*2-1)+i) (j:=a+q) (by omega) (L:=L)
  have hr5:=hr2.swap (i:=a+(d / 4*2-1)+i) (j:=a+q) (by omega) (by omega)
  have hps5:=hp.trans (aY (l:=l') (i:=a+(d / 4*2-1)+i) (j:=a+q) (a:=a) (b:=a+d) ⟨by omega,by omega⟩ ⟨by omega,by omega⟩ (by omega))
  have hw5:(H3.set b (mD (swp l' (a+(d / 4*2-1)+i) (a+q))))[H.length]? = some (.row [.int .u64 z] true):=by
   rw [List.getElem?_set_ne (by omega)];exact hw2
  simp (disch:=omega) [f0,f1,f6,f7,f8,f9,f10,e1,e2,ae,g1,g2,w1,w2,bF,-ah,-aD,-ag]
  exact ⟨by omega,by omega,_,hr5,⟨z,hw2⟩,hps5⟩
 ·simp
  exact hK _ _ hr hp
theorem Ha (hs:SoS b H0 l0 l H)(hlim:lim<=b){a e:Nat}(hae:a+8<=e/\e<=l0.length)(hl:l0.length<=100000)
 (hK:∀H' (v h:Nat),SoS b H0 l0 l H'->(a<=v/\v<e)->K (.tup [.int .i64 (v:Nat),.int .i64 (h:Nat)]) H'):aF tbl lim 86 [.sl b 0 l0.length 1,.int .i64 a,.int .i64 e] H K:=by
 refine ao tbl_at86 rfl ?_
 have hn:=hs.n
 have hb:=hs.blt
 have hle:=hs.len
 obtain ⟨d,rfl⟩:∃d,e=a+d:=⟨e-a,by omega⟩
 have e0:(a:Int)+(d:Int)-(a:Int)=(d:Int):=by omega
 have e8:((8:Int)<=(d:Int))=True:=eq_true (by omega)
 obtain ⟨q,eq4,hd4⟩:∃q:Nat,(d:Int).tdiv 4=(q:Int)/\4*q<=d/\d<=4*q+3:=⟨d / 4,iQ _ 4,by omega,by omega⟩
 simp (disch:=omega) [vf86,ae,e0,e8,eq4]
 have row1:(H++[Blk.row [V.int .i64 0] true])[H.length]? = some (.row [.int .i64 0] true):=by simp
 have hs1:SoS b H0 l0 l (H++[Blk.row [V.int .i64 0] true]):=hs.grow HX.push
 generalize H++[Blk.row [V.int .i64 0] true]=H1 at *
 generalize H.length=sw at *
 refine cy (fun fr L H'=>∃i j k w,(fr 0=.sl b 0 l0.length 1/\fr 9=.ptr sw 0/\fr 10=.int .i64 (i:Nat)/\fr 11=.int .i64 (j:Nat)/\fr 12=.int .i64 (k:Nat))/\L=[]/\SoS b H0 l0 l H'/\H'[sw]? = some (.row [.int .i64 w] true)/\(a<=i/\i<a+d)/\(a<=j/\j<a+d)/\a<=k/\k<a+d) (fun h => ?_) (fun h => ?_) ?_
 ·simp at h
  have c1:(a:Int)+(q:Int)=((a+q:Nat):Int):=by omega
  have c2:(a:Int)+(q:Int)*2=((a+q*2:Nat):Int):=by omega
  have c3:(a:Int)+(q:Int)*3=((a+q*3:Nat):Int):=by omega
  simp only [c1,c2,c3]
  generalize hi:a+q=i at *
  generalize hj:a+q*2=j at *
  generalize hk:a+q*3=k at *
  simp []
  refine jr hs1 hlim   row1 hle (x:=i) (by omega) hl fun H2 w2 r2 hs2 row2 h2 => ?_
  simp []
  refine jr hs2 hlim   row2 hle (x:=j) (by omega) hl fun H3 w3 r3 hs3 row3 h3 => ?_
  simp []
  refine jr hs3 hlim   row3 hle (x:=k) (by omega) hl fun H4 w4 r4 hs4 row4 h4 => ?_
  simp
  exact ⟨r2,r3,r4,by omega,hs4,⟨w4,row4⟩,by omega,by omega,by omega,by omega⟩
 ·simp
  exact ⟨a+q,a+q*2,a+q*3,by omega,hs1,⟨0,row1⟩,by omega,by omega,by omega,by omega⟩
 rintro fr L H2 ⟨i,j,k,w,⟨f0,f9,f10,f11,f12⟩,rfl,hs2,row2,hi,hj,hk⟩
 simp [f0,f9,f10,f11,f12]
 refine s8 hs2 hlim   row2 hle (x:=i) (y:=j) (z:=k) (by omega) (by omega) (by omega) fun H3 w3 r hs3 row3 h3 => ?_
 have ld:=fun L=>D0 row3 (L:=L)
 simp [f0,f9,f10,f11,f12,ld,-ag]
 refine aC (fun h => ?_) fun h => ?_
 ·simp
  exact hK _ r 1 hs3 (by omega)
 simp
 refine aC (fun h => ?_) fun h => ?_
 ·simp
  exact hK _ r 2 hs3 (by omega)
 ·simp
  exact hK _ r 0 hs3 (by omega)
theorem Q3 (ho:Ordr cfI) (hlim:lim≤b) (hl:l0.length<256):∀(n:Nat) {H:Hp} {l:List EO} {a e:Nat} {lm:Nat} {K:V→Hp→Prop},e-a≤n→SoS b H0 l0 l H→(a≤e∧e≤l0.length)→lm≤1000→GdR cfI a e l →
 (∀H' l',SoS b H0 l0 l' H'->PermR a e l l'->br cfI a e l'->K (.tup []) H')->aF tbl lim 71 [.sl b 0 l0.length 1,.int .i64 a,.int .i64 e,.int .i64 lm] H K:=by
 intro n
 induction n using Nat.strongRecOn with
 | ind n ih =>
 intro H l a e lm K hn hs hae hlm hg hK
 have hb:=hs.blt
 refine ao tbl_at71 rfl ?_
 have hln:=hs.n
 simp [vf71]
 refine bK (n:=e-a) (fun m fr L H'=>∃l' a' e' lm wb wp,(fr 0=.sl b 0 l0.length 1/\fr 1=.int .i64 (a':Nat)/\fr 2=.int .i64 (e':Nat)/\fr 3=.int .i64 (lm:Nat)/\fr 8=.bool wb/\fr 9=.bool wp)/\L=[]/\SoS b H0 l0 l' H'/\PermR a e l l'/\OutR cfI a e a' e' l'/\GdR cfI a' e' l'/\lm<=1000/\m=e'-a'/\m<=e-a) ⟨l,a,e,lm,true,true,by simp,rfl,hs,PermR.refl,OutR.start hae.1,hg,hlm,rfl,Nat.le_refl _⟩ ?_
 clear hs hg hlm
 rintro m fr L H1 ⟨l1,x,y,lm1,wb,wp,⟨f0,f1,f2,f3,f8,f9⟩,rfl,hs,hp,hO,hg,hlm,hm,hm2⟩
 have hlen:=hp.len
 have hrg:=hO.rng
 have e0:(y:Int)-(x:Int)=((y-x:Nat):Int):=by omega
 simp (disch:=omega) [f0,f1,f2,f3,f8,f9,ae]
 refine aC (fun h12 => ?_) fun h12 => ?_
 ·simp [f0,f1,f2,f3,f8,f9]
  refine Lh hs hlim   ho (a:=x) (e:=y) (by omega) (by omega) fun H2 l2 hs2 hp2 hso2 => ?_
  simp
  exact hK _ _ hs2 (hp.trans (hp2.wide hrg.1 hrg.2.2)) ((hO.perm hp2 (by omega)).sort hso2)
 simp [f0,f1,f2,f3,f8,f9]
 by_cases hz:lm1=0
 ·subst hz
  simp [f0,f1,f2,f3,f8,f9]
  refine Nw hs hlim   ho (a:=x) (e:=y) (by omega) (by omega) fun H2 l2 hs2 hp2 hso2 => ?_
  simp
  exact hK _ _ hs2 (hp.trans (hp2.wide hrg.1 hrg.2.2)) ((hO.perm hp2 (by omega)).sort hso2)
 simp [f0,f1,f2,f3,f8,f9,hz]
 refine cy (fun fr L H'=>∃l' lm,(fr 0=.sl b 0 l0.length 1/\fr 1=.int .i64 x/\fr 2=.int .i64 y/\fr 3=.int .i64 (lm:Nat)/\fr 8=.bool wb/\fr 9=.bool wp/\fr 10=.int .i64 ((y:Int)-(x:Int)))/\L=[]/\SoS b H0 l0 l' H'/\PermR a e l l'/\OutR cfI a e x y l'/\GdR cfI x y l'/\lm<=1000) (fun h => ?_) (fun h => ?_) ?_
 ·simp [f0,f1,f2,f3,f8,f9]
  refine Kl hs hlim (a:=x) (e:=y) (by omega) (by omega) fun H2 l2 hs2 hp2 => ?_
  have e1:(lm1:Int)-1=((lm1-1:Nat):Int):=by omega
  simp (disch:=omega) [f0,f1,f2,f3,f8,f9,ae,e1]
  exact ⟨l2,lm1-1,by omega,hs2,hp.trans (hp2.wide hrg.1 hrg.2.2),hO.perm hp2 (by omega),hg.perm hp2 (Nat.le_refl _) (Nat.le_refl _) (by omega),by omega⟩
 ·simp [f0,f1,f2,f3,f8,f9]
  exact ⟨l1,lm1,by omega,hs,hp,hO,hg,by omega⟩
 clear f0 f1 f2 f3 f8 f9 hs hp hO hg hlen hlm hz
 rintro fr L H2 ⟨l2,lm2,⟨f0,f1,f2,f3,f8,f9,f10⟩,rfl,hs,hp,hO,hg,hlm⟩
 have hlen:=hp.len
 simp [f0,f1,f2,f3,f8,f9,f10]
 refine Ha hs hlim   (a:=x) (e:=y) (by omega) (by omega) fun H3 v hint hs3 hv => ?_
 simp [f0,f1,f2,f3,f8,f9,f10]
 refine cy (fun fr L H'=>∃l' v hint,(fr 0=.sl b 0 l0.length 1/\fr 1=.int .i64 x/\fr 2=.int .i64 y/\fr 3=.int .i64 (lm2:Nat)/\fr 8=.bool wb/\fr 9=.bool wp/\fr 10=.int .i64 ((y:Int)-(x:Int))/\fr 11=.int .i64 (v:Nat)/\fr 12=.int .i64 (hint:Nat))/\L=[]/\SoS b H0 l0 l' H'/\PermR a e l l'/\OutR cfI a e x y l'/\GdR cfI x y l'/\x<=v/\v<y) (fun h => ?_) (fun h => ?_) ?_
 ·simp [f0,f1,f2,f3,f8,f9]
  refine AE hs3 hlim (a:=x) (e:=y) (by omega) (by omega) fun H4 l4 hs4 hp4 => ?_
  simp (disch:=omega) [f0,f1,f2,f3,f8,f9,f10,ae]
  exact ⟨l4,(y-1)-(v-x),⟨by omega,1,rfl⟩,hs4,hp.trans (hp4.wide hrg.1 hrg.2.2),hO.perm hp4 (by omega),hg.perm hp4 (Nat.le_refl _) (Nat.le_refl _) (by omega),by omega,by omega⟩
 ·simp [f0,f1,f2,f3,f8,f9,f10]
  exact ⟨l2,v,⟨rfl,hint,rfl⟩,hs3,hp,hO,hg,by omega,by omega⟩
 clear f0 f1 f2 f3 f8 f9 f10 hs hs3 hp hO hg hlen hv
 rintro fr L H4 ⟨l4,v,hint,⟨f0,f1,f2,f3,f8,f9,f10,f11,f12⟩,rfl,hs,hp,hO,hg,hv⟩
 have hlen:=hp.len
 rw [km]
 refine kE (fun fr L H'=>∃l' wb wp,(fr 0=.sl b 0 l0.length 1/\fr 1=.int .i64 x/\fr 2=.int .i64 y/\fr 3=.int .i64 (lm2:Nat)/\fr 10=.int .i64 ((y:Int)-(x:Int))/\fr 11=.int .i64 (v:Nat)/\fr 8=.bool wb/\fr 9=.bool wp)/\L=[]/\SoS b H0 l0 l' H'/\PermR a e l l'/\OutR cfI a e x y l'/\GdR cfI x y l') ?_ ?_
 ·have pis:∀(fr:Fr),fr 0=.sl b 0 l0.length 1->True:=fun _ _=>trivial
  by_cases hh:wb=true/\wp=true/\hint=1
  ·obtain ⟨rfl,rfl,rfl⟩:=hh
   simp [f0,f1,f2,f3,f8,f9,f10,f11,f12]
   refine QM hs hlim   ho (a:=x) (e:=y) (by omega) (by omega) hg fun H5 l5 ok hs5 hp5 hso5 => ?_
   cases ok with
   | true =>
     simp
     exact hK _ _ hs5 (hp.trans (hp5.wide hrg.1 hrg.2.2)) ((hO.perm hp5 (by omega)).sort (hso5 rfl))
   | false =>
     simp [f0,f1,f2,f3,f8,f9,f10,f11,f12]
     exact ⟨l5,hs5,hp.trans (hp5.wide hrg.1 hrg.2.2),hO.perm hp5 (by omega),hg.perm hp5 (Nat.le_refl _) (Nat.le_refl _) (by omega)⟩
  ·have fin:∃l',SoS b H0 l0 l' H4/\PermR a e l l'/\OutR cfI a e x y l'/\GdR cfI x y l':=⟨l4,hs,hp,hO,hg⟩
   cases wb with
   | false =>
     simp [f0,f1,f2,f3,f8,f9,f10,f11,f12]
     exact fin
   | true =>
     cases wp with
     | false =>
       simp [f0,f1,f2,f3,f8,f9,f10,f11,f12]
       exact fin
     | true =>
       have h1:((hint:Int)=1)=False:=eq_false (by simp at hh;omega)
       simp [f0,f1,f2,f3,f8,f9,f10,f11,f12,h1]
       exact fin
 clear f0 f1 f2 f3 f8 f9 f10 f11 f12 hs hp hO hg hlen
 rintro fr L H5 ⟨l5,wb,wp,⟨f0,f1,f2,f3,f10,f11,f8,f9⟩,rfl,hs,hp,hO,hg⟩
 have hlen:=hp.len
 refine kE (fun fr L H'=>∃l' wb wp,(fr 0=.sl b 0 l0.length 1/\fr 1=.int .i64 x/\fr 2=.int .i64 y/\fr 3=.int .i64 (lm2:Nat)/\fr 10=.int .i64 ((y:Int)-(x:Int))/\fr 11=.int .i64 (v:Nat)/\fr 8=.bool wb/\fr 9=.bool wp)/\L=[]/\SoS b H0 l0 l' H'/\PermR a e l l'/\OutR cfI a e x y l'/\GdR cfI x y l') ?_ ?_
 ·by_cases hx0:x=0
  ·have h0:(0<x)=False:=eq_false (by omega)
   simp [f0,f1,f2,f3,f8,f9,f10,f11,h0]
   exact ⟨l5,hs,hp,hO,hg⟩
  ·have h0:(0<x)=True:=eq_true (by omega)
   have e1:((x:Int)-1).toNat=x-1:=by omega
   have g1:=fun L=>bf hs.row (i:=x-1) (by omega) (L:=L)
   have g2:=fun L=>bf hs.row (i:=v) (by omega) (L:=L)
   simp (disch:=omega) [f0,f1,f2,f3,f8,f9,f10,f11,h0,e1,ae,g1,g2,bF,-ah,-ag]
   refine dq hs (i:=x-1) (j:=v) (by omega) (by omega) fun H6 x6 hs6 => ?_
   simp
   refine bM (fun hlt => ?_) fun hlt => ?_
   ·simp [f0,f1,f2,f3,f8,f9,f10,f11]
    refine Fl hs6 hlim   ho (a:=x) (e:=y) (v:=v) (by omega) (by omega) (hg.least ho (by omega) hlt) fun H7 l7 q hs7 hp7 hq heq => ?_
    have hO7:=(hO.perm hp7 (by omega)).equal (m:=q) (by omega) heq
    simp [f0,f1,f2,f3,f8,f9,f10,f11]
    exact ⟨y-q,by omega,l7,q,y,lm2,by omega,hs7,hp.trans (hp7.wide hrg.1 hrg.2.2),hO7,hO7.guard (by omega),by omega,rfl,by omega⟩
   ·simp [f0,f1,f2,f3,f8,f9,f10,f11]
    exact ⟨l5,hs6,hp,hO,hg⟩
 clear f0 f1 f2 f3 f8 f9 f10 f11 hs hp hO hg hlen
 rintro fr L H6 ⟨l6,wb,wp,⟨f0,f1,f2,f3,f10,f11,f8,f9⟩,rfl,hs,hp,hO,hg⟩
 have hlen:=hp.len
 simp [f0,f1,f2,f3,f8,f9,f10,f11]
 refine OD hs hlim   ho (a:=x) (e:=y) (v:=v) (by omega) (by omega) fun H7 l7 q ok hs7 hp7 hq => ?_
 have hqr:=hq.rng
 have hO7:=hO.perm hp7 (by omega)
 have hp77:=hp.trans (hp7.wide hrg.1 hrg.2.2)
 have hl7:=hp77.len
 simp (disch:=omega) [f0,f1,f2,f3,f8,f9,f10,f11,ae]
 refine aC (fun hlr => ?_) fun hlr => ?_
 ·simp [f0,f1,f2,f3,f8,f9,f10,f11]
  refine ih (q-x) (by omega) (Nat.le_refl _) hs7 (by omega) hlm ((hg.perm hp7 (Nat.le_refl _) (Nat.le_refl _) (by omega)).less (by omega)) fun H8 l8 hs8 hp8 hso8 => ?_
  have hO8:=hO7.left ho hq hp8 hso8 (by omega)
  simp (disch:=omega) [f0,f1,f2,f3,f8,f9,f10,f11,ae]
  exact ⟨y-(q+1),by omega,l8,q+1,y,lm2,by omega,hs8,hp77.trans (hp8.wide (by omega) (by omega)),hO8,hO8.guard (by omega),by omega,rfl,by omega⟩
 ·have e1:(q:Int)+1=((q+1:Nat):Int):=by omega
  simp (disch:=omega) [f0,f1,f2,f3,f8,f9,f10,f11,ae]
  rw [e1]
  refine ih (y-(q+1)) (by omega) (Nat.le_refl _) hs7 (by omega) hlm (fun _ k h1 h2=>hq.hi k (by omega) h2) fun H8 l8 hs8 hp8 hso8 => ?_
  have hO8:=hO7.right ho hq hp8 hso8 (by omega)
  simp (disch:=omega) [f0,f1,f2,f3,f8,f9,f10,f11,ae]
  exact ⟨q-x,by omega,l8,x,q,lm2,by omega,hs8,hp77.trans (hp8.wide (by omega) (by omega)),hO8,((hg.perm hp7 (Nat.le_refl _) (Nat.le_refl _) (by omega)).perm hp8 (by omega) (Nat.le_refl _) (by omega)).less (by omega),by omega,rfl,by omega⟩
theorem ME (hb:H[b]? = some (mD l))(hlim:lim<=b)(ho:Ordr cfI)(hl:l.length<256)
 (hK:∀H' l',SoS b H l l' H'->br cfI 0 l.length l'->K (.tup []) H'):aF tbl lim 57 [.sl b 0 l.length 1] H K:=by
 refine ao tbl_at57 rfl ?_
 have hbl:=(List.getElem?_eq_some_iff.1 hb).1
 have wu:IntKind.wrap .u64 (l.length:Int)=(l.length:Int):=iI (by omega)
 simp [vf57,wu]
 refine Nc (x:=l.length) hl (by omega) fun m hm => ?_
 simp []
 refine Q3 (a:=0) (e:=l.length)  ho  hlim hl l.length (by omega) (SoS.start hb) (by omega) (by omega) (fun h=>by omega) fun H' l' hs hp hso => ?_
 simp
 exact hK _ _ hs hso
end
end Go.Proofs.YtgjlhdggllakbaaGreatDoor.Vm
namespace Go.Proofs.YtgjlhdggllakbaaGreatDoor.Vm
open Go
set_option maxRecDepth 100000
attribute [-simp] List.getD_eq_getElem?_getD
structure Pnt where
 v:V
 i:Bool
 a:Int
 d:Int
 k:Int
 deriving Inhabited
def Pnt.cells (e:Pnt):List V:=[e.v,.bool e.i,.int .i64 e.a,.int .i64 e.d]
def Gj:Cod Pnt 4:=⟨Pnt.cells,fun _=>rfl⟩
abbrev EQ:=Pnt
def gE (l:List EQ)(i:Nat):EQ:=l.getD i default
def eV (x:EQ):V:=.agg x.cells
def nr (l:List EQ):Blk:=.row (Gj.all l) true
theorem O3 {x:EQ}:stor (eV x)=true:=Eq.trans rfl rfl
attribute [simp] O3
theorem bE {b n:Nat}{i:Int}(h:0<=i/\i<n):aQ 4 (.sl b 0 n 4) (.int .i64 i)=some (V.ptr b (i.toNat*4)):=by
 rw [ah (by omega),Nat.zero_add]
theorem be {H:Hp}{b:Nat}{l:List EQ}(h:H[b]? = some (nr l)){i:Nat}(hi:i<l.length){L:Lo}:aW (some 4) L H (V.ptr b (i*4))=some (eV (gE l i)):=by
 have o:OwnT 0 Gj H (.sl b 0 l.length 4) l:=.row (Nat.zero_le _) h
 have:=o.lst.load hi (L:=L)
 rw [show ept 4 (.sl b 0 l.length 4) i=.ptr b (0+i*4) from rfl,Nat.zero_add] at this
 exact this
theorem PR {lim:Nat}{H:Hp}{b:Nat}{l:List EQ}(h:H[b]? = some (nr l))(hlim:lim<=b){i:Nat}(hi:i<l.length){L:Lo}(x:EQ):aD lim L H (V.ptr b (i*4)) (eV x) 4=some (L,H.set b (nr (l.set i x))):=by
 have o:OwnT b Gj H (.sl b 0 l.length 4) l:=.row (Nat.le_refl _) h
 have:=o.store (lim:=lim) (i:=i) (j:=0) (x:=eV x) (y:=x) (L:=L) (sz:=4) hlim hi rfl rfl (by omega) (by
  show x.cells=al (l.getD i default).cells 0 x.cells
  simp [Pnt.cells,al])
 rw [show dB 4 (.sl b 0 l.length 4) i 0=.ptr b (0+i*4+0) from rfl,Nat.zero_add,Nat.add_zero] at this
 exact this
structure SqS (b:Nat)(H0:Hp)(l0 l:List EQ)(H:Hp):Prop where
 row:H[b]? = some (nr l)
 len:H0.length<=H.length
 oth:∀b',b'<H0.length->b'≠b->H[b']? = H0[b']?
 perm:l.Perm l0
 blt:b<H0.length
def lJ (b g:Nat)(fs cs:List V)(H0:Hp)(l0:List EQ)(cf:EQ->EQ->Int):Prop :=
 ∀(H:Hp) (lim:Nat) (x y:EQ) (K:V->Hp->Prop),x∈l0->y∈l0->H0.length<=H.length->(∀b',b'<H0.length->b'≠b->H[b']? = H0[b']?)->(∀H',HX H H'->K (.int .i64 (cf x y)) H')->aF tbl lim g (fs++eV x :: eV y :: cs) H K
section
variable {lim:Nat}{H H0:Hp}{K:V->Hp->Prop}{b g:Nat}{l l0:List EQ}{cf:EQ->EQ->Int}{fs cs:List V}
theorem SqS.n (h:SqS b H0 l0 l H):l.length=l0.length:=h.perm.length_eq
theorem SqS.start (hb:H[b]? = some (nr l)):SqS b H l l H:=⟨hb,Nat.le_refl _,fun _ _ _=>rfl,.refl _,(List.getElem?_eq_some_iff.1 hb).1⟩
theorem SqS.lt (h:SqS b H0 l0 l H):b<H.length:=(List.getElem?_eq_some_iff.1 h.row).1
theorem SqS.grow {H':Hp}(h:SqS b H0 l0 l H)(x:HX H H'):SqS b H0 l0 l H' :=
 ⟨x.get h.row,Nat.le_trans h.len x.len,fun b' h1 h2=>(x.same (Nat.lt_of_lt_of_le h1 h.len)).trans (h.oth b' h1 h2),h.perm,h.blt⟩
theorem SqS.set {l':List EQ}(h:SqS b H0 l0 l H)(hp:l'.Perm l0):SqS b H0 l0 l' (H.set b (nr l')) :=
 ⟨by simp [h.lt],by simpa using h.len,fun b' h1 h2=>by rw [List.getElem?_set_ne (fun e=>h2 e.symm)];exact h.oth b' h1 h2,hp,h.blt⟩
theorem SqS.swap (h:SqS b H0 l0 l H){i j:Nat}(hi:i<l.length)(hj:j<l.length):SqS b H0 l0 (swp l i j) (H.set b (nr (swp l i j))) :=
 h.set ((aY (a:=0) (b:=l.length) ⟨Nat.zero_le _,hi⟩ ⟨Nat.zero_le _,hj⟩ (Nat.le_refl _)).perm.trans h.perm)
theorem SqS.aside (h:SqS b H0 l0 l H){s:Nat}{r:Blk}(hs:H0.length<=s):SqS b H0 l0 l (H.set s r):=by
 have:=h.blt
 exact ⟨by rw [List.getElem?_set_ne (by omega)];exact h.row,by simpa using h.len,fun b' h1 h2=>by rw [List.getElem?_set_ne (by omega)];exact h.oth b' h1 h2,h.perm,h.blt⟩
theorem SqS.mem (h:SqS b H0 l0 l H){i:Nat}(hi:i<l.length):gE l i∈l0:=by
 rw [gE,←h.perm.mem_iff,gf hi];exact List.getElem_mem hi
theorem lJ.at (hc:lJ b g fs cs H0 l0 cf)(hs:SqS b H0 l0 l H){i j:Nat}(hi:i<l.length)(hj:j<l.length){lim:Nat}{K:V->Hp->Prop}(hK:∀H',HX H H'->SqS b H0 l0 l H'->K (.int .i64 (cf (gE l i) (gE l j))) H') :
 aF tbl lim g (fs++eV (gE l i) :: eV (gE l j) :: cs) H K :=
 hc H lim _ _ K (hs.mem hi) (hs.mem hj) hs.len hs.oth fun H' x=>hK H' x (hs.grow x)
theorem gw (h:SqS b H0 l0 l H)(hlim:lim<=b){i:Nat}(hi:i<l.length){L:Lo}(x:EQ):aD lim L H (V.ptr b (i*4)) (eV x) 4=some (L,H.set b (nr (l.set i x))):=PR h.row hlim hi x
theorem gh (h:SqS b H0 l0 l H)(hlim:lim<=b){i j:Nat}(hj:j<l.length){L:Lo}:aD lim L (H.set b (nr (l.set i (gE l j)))) (V.ptr b (j*4)) (eV (gE l i)) 4=some (L,H.set b (nr (swp l i j))):=by
 rw [PR (l:=l.set i (gE l j)) (by simp [h.lt]) hlim (by simpa using hj),List.set_set];rfl
theorem K3 (hs:SqS b H0 l0 l H) (hlim:lim≤b) (hst:bg fs=true∧bg cs=true∧g≠3999999) (hc:lJ b g fs cs H0 l0 cf) (ho:Ordr cf) {a e:Nat} (hae:a≤e∧e≤l0.length) (hl:l0.length≤100000)
 (hK:∀H' l',SqS b H0 l0 l' H'->PermR a e l l'->br cf a e l'->K (.tup []) H'):aF tbl lim 94 [.sl b 0 l0.length 4,.int .i64 a,.int .i64 e,.func (.func g) fs cs] H K:=by
 refine ao tbl_at94 rfl ?_
 have hn:=hs.n
 simp (disch:=omega) [vf94,ae]
 refine aO (e-(a+1)) (fun i fr L H'=>∃l',(fr 0=.sl b 0 l0.length 4/\fr 1=.int .i64 a/\fr 2=.int .i64 e/\fr 3=.func (.func g) fs cs/\fr 8=.int .i64 ((a+1+i:Nat):Int))/\L=[]/\SqS b H0 l0 l' H'/\PermR a e l l'/\br cf a (min e (a+1+i)) l') ⟨l,by simp,rfl,hs,PermR.refl,fun p q h1 h2 h3=>by omega⟩ ?_
 rintro i hi fr L H' ⟨l',⟨f0,f1,f2,f3,f8⟩,rfl,hr,hp,hs'⟩
 simp [f0,f1,f2,f3,f8]
 refine aC (fun ht => ?_) fun hfl => ?_
 ·have ht:i<e-(a+1):=by omega
  rw [Nat.min_eq_right (by omega)] at hs'
  simp [f8]
  refine bK (n:=i+1) (fun m fr L H'=>∃l',(fr 0=.sl b 0 l0.length 4/\fr 1=.int .i64 a/\fr 2=.int .i64 e/\fr 3=.func (.func g) fs cs/\fr 8=.int .i64 ((a+1+i:Nat):Int)/\fr 9=.int .i64 ((a+m:Nat):Int))/\L=[]/\SqS b H0 l0 l' H'/\PermR a e l l'/\m<=i+1/\gJ cf a (a+1+i) (a+m) l') ⟨l',by simp [f0,f1,f2,f3,f8];omega,rfl,hr,hp,Nat.le_refl _,by rw [show a+(i+1)=a+1+i by omega];exact gJ.start hs'⟩ ?_
  clear f0 f1 f2 f3 f8 hr hp hs' l'
  rintro m fr L H' ⟨l',⟨f0,f1,f2,f3,f8,f9⟩,rfl,hr,hp,hm,hI⟩
  have hlen:=hp.len
  by_cases hm0:m=0
  ·subst hm0
   have hs2:=hI.done ho (by omega) (by omega) (Or.inl rfl)
   simp (disch:=omega) [f0,f1,f2,f3,f8,f9,ae]
   refine ⟨by omega,by omega,l',hr,hp,?_⟩
   rw [show a+1+(i+1)=a+1+i+1 by omega];exact hs2
  ·have e1:((a:Int)+(m:Int)).toNat=a+m:=by omega
   have e2:((a:Int)+(m:Int)-1).toNat=a+m-1:=by omega
   have g1:=fun L=>be hr.row (i:=a+m) (by omega) (L:=L)
   have g2:=fun L=>be hr.row (i:=a+m-1) (by omega) (L:=L)
   have hgt:((a:Int)<(a:Int)+(m:Int))=True:=eq_true (by omega)
   simp (disch:=omega) [f0,f1,f2,f3,f8,f9,hgt,ae,e1,e2,g1,g2,hst,bE,-ah,-ag]
   refine hc.at hr (i:=a+m) (j:=a+m-1) (by omega) (by omega) fun H2 x2 hr2 => ?_
   have g1:=fun L=>be hr2.row (i:=a+m) (by omega) (L:=L)
   have g2:=fun L=>be hr2.row (i:=a+m-1) (by omega) (L:=L)
   simp
   refine aC (fun hlt => ?_) fun hlt => ?_
   ·have w1:=fun L=>gw hr2 hlim (i:=a+m) (by omega) (L:=L) (gE l' (a+m-1))
    have w2:=fun L=>gh hr2 hlim (i:=a+m) (j:=a+m-1) (by omega) (L:=L)
    have hr4:=hr2.swap (i:=a+m) (j:=a+m-1) (by omega) (by omega)
    have hsw:=gJ.swap ho hI (by omega) (by omega) (by omega) hlt
    have hsw:gJ cf a (a+1+i) (a+(m-1)) (swp l' (a+m) (a+m-1)):=by
     have e3:a+(m-1)=a+m-1:=by omega
     rw [e3];exact hsw
    have hps:=hp.trans (aY (l:=l') (i:=a+m) (j:=a+m-1) (a:=a) (b:=e) ⟨by omega,by omega⟩ ⟨by omega,by omega⟩ (by omega))
    simp (disch:=omega) [f0,f1,f2,f3,f8,f9,ae,e1,e2,g1,g2,w1,w2,bE,-ah,-aD,-ag]
    exact ⟨m-1,by omega,by omega,_,hr4,hps,by omega,hsw⟩
   ·have hs2:=hI.done ho (by omega) (by omega) (Or.inr hlt)
    simp (disch:=omega) [f0,f1,f2,f3,f8,f9,ae]
    refine ⟨by omega,by omega,l',hr2,hp,?_⟩
    rw [show a+1+(i+1)=a+1+i+1 by omega];exact hs2
 ·have:e<=a+1+i:=by omega
  rw [Nat.min_eq_left this] at hs'
  simp
  exact hK _ _ hr hp hs'
theorem ny {s x y:Nat}{w:Int}(hs:SqS b H0 l0 l H)(hlim:lim<=b)(hst:bg fs=true/\bg cs=true/\g≠3999999)(hc:lJ b g fs cs H0 l0 cf)(hsw:H[s]? = some (.row [.int .i64 w] true))(hs0:H0.length<=s)(hx:x<l0.length)(hy:y<l0.length)
 (hK:∀H' w' x' y',SqS b H0 l0 l H'->H'[s]? = some (.row [.int .i64 w'] true)->((x'=x/\y'=y)\/(x'=y/\y'=x))->K (.tup [.int .i64 (x':Nat),.int .i64 (y':Nat)]) H') :
 aF tbl lim 134 [.sl b 0 l0.length 4,.int .i64 x,.int .i64 y,.ptr s 0,.func (.func g) fs cs] H K:=by
 refine ao tbl_at134 rfl ?_
 have hn:=hs.n
 have g1:=fun L=>be hs.row (i:=x) (by omega) (L:=L)
 have g2:=fun L=>be hs.row (i:=y) (by omega) (L:=L)
 simp (disch:=omega) [vf134,g1,g2,hst,bE,-ah,-ag]
 refine hc.at hs (i:=y) (j:=x) (by omega) (by omega) fun H2 x2 hs2 => ?_
 have hsw2:=x2.get hsw
 have hbl:=hs.blt
 simp
 refine aC (fun hlt => ?_) fun hlt => ?_
 ·have ld:=fun L=>D0 (L:=L) hsw2
  have st:=fun L z=>PI (lim:=lim) (L:=L) (z:=z) hsw2 (by omega)
  simp [ld,st,-aD,-ag]
  exact hK _ _ y x (hs2.aside hs0) (by rw [List.getElem?_set_self (List.getElem?_eq_some_iff.1 hsw2).1]) (Or.inr ⟨rfl,rfl⟩)
 ·simp
  exact hK _ _ x y hs2 hsw2 (Or.inl ⟨rfl,rfl⟩)
theorem tj {s x y z:Nat}{w:Int}(hs:SqS b H0 l0 l H)(hlim:lim<=b)(hst:bg fs=true/\bg cs=true/\g≠3999999)(hc:lJ b g fs cs H0 l0 cf)(hsw:H[s]? = some (.row [.int .i64 w] true))(hs0:H0.length<=s)(hx:x<l0.length)(hy:y<l0.length)(hz:z<l0.length)
 (hK:∀H' w' r,SqS b H0 l0 l H'->H'[s]? = some (.row [.int .i64 w'] true)->(r=x\/r=y\/r=z)->K (.int .i64 (r:Nat)) H') :
 aF tbl lim 121 [.sl b 0 l0.length 4,.int .i64 x,.int .i64 y,.int .i64 z,.ptr s 0,.func (.func g) fs cs] H K:=by
 refine ao tbl_at121 rfl ?_
 simp [vf121,hst]
 refine ny hs hlim hst hc hsw hs0 hx hy fun H1 w1 x1 y1 hs1 hsw1 h1 => ?_
 simp [hst]
 refine ny hs1 hlim hst hc hsw1 hs0 (x:=y1) (y:=z) (by omega) hz fun H2 w2 x2 y2 hs2 hsw2 h2 => ?_
 simp [hst]
 refine ny hs2 hlim hst hc hsw2 hs0 (x:=x1) (y:=x2) (by omega) (by omega) fun H3 w3 x3 y3 hs3 hsw3 h3 => ?_
 simp
 exact hK _ _ _ hs3 hsw3 (by omega)
theorem jb {s x:Nat}{w:Int}(hs:SqS b H0 l0 l H)(hlim:lim<=b)(hst:bg fs=true/\bg cs=true/\g≠3999999)(hc:lJ b g fs cs H0 l0 cf)(hsw:H[s]? = some (.row [.int .i64 w] true))(hs0:H0.length<=s)(hx:0<x/\x+1<l0.length)(hl:l0.length<=100000)
 (hK:∀H' w' r,SqS b H0 l0 l H'->H'[s]? = some (.row [.int .i64 w'] true)->(x-1<=r/\r<=x+1)->K (.int .i64 (r:Nat)) H') :
 aF tbl lim 120 [.sl b 0 l0.length 4,.int .i64 x,.ptr s 0,.func (.func g) fs cs] H K:=by
 refine ao tbl_at120 rfl ?_
 have e1:(x:Int)-1=((x-1:Nat):Int):=by omega
 have e2:(x:Int)+1=((x+1:Nat):Int):=by omega
 simp (disch:=omega) [vf120,hst,ae]
 rw [e1,e2]
 refine tj hs hlim hst hc hsw hs0 (x:=x-1) (y:=x) (z:=x+1) (by omega) (by omega) (by omega) fun H1 w1 r hs1 hsw1 h1 => ?_
 simp
 exact hK _ _ _ hs1 hsw1 (by omega)
theorem A6 (hs:SqS b H0 l0 l H)(hlim:lim<=b){a e:Nat}{f:V}(hae:a<e/\e<=l0.length)(hl:l0.length<=100000)
 (hK:∀H' l',SqS b H0 l0 l' H'->PermR a e l l'->K (.tup []) H'):aF tbl lim 98 [.sl b 0 l0.length 4,.int .i64 a,.int .i64 e,f] H K:=by
 refine ao tbl_at98 rfl ?_
 have hn:=hs.n
 simp (disch:=omega) [vf98,ae]
 refine aO (e-a) (fun i fr L H'=>∃l',(fr 0=.sl b 0 l0.length 4/\fr 8=.int .i64 ((a+i:Nat):Int)/\fr 9=.int .i64 ((e-1:Nat)-(i:Nat):Int))/\L=[]/\SqS b H0 l0 l' H'/\PermR a e l l') ⟨l,by simp;omega,rfl,hs,PermR.refl⟩ ?_
 rintro i hi fr L H' ⟨l',⟨f0,f8,f9⟩,rfl,hr,hp⟩
 have hlen:=hp.len
 simp [f0,f8,f9]
 refine aC (fun ht => ?_) fun hfl => ?_
 ·have e1:((a:Int)+(i:Int)).toNat=a+i:=by omega
  have e2:(((e-1:Nat):Int)-(i:Int)).toNat=e-1-i:=by omega
  have g1:=fun L=>be hr.row (i:=a+i) (by omega) (L:=L)
  have g2:=fun L=>be hr.row (i:=e-1-i) (by omega) (L:=L)
  have w1:=fun L=>gw hr hlim (i:=a+i) (by omega) (L:=L) (gE l' (e-1-i))
  have w2:=fun L=>gh hr hlim (i:=a+i) (j:=e-1-i) (by omega) (L:=L)
  have hr4:=hr.swap (i:=a+i) (j:=e-1-i) (by omega) (by omega)
  have hps:=hp.trans (aY (l:=l') (i:=a+i) (j:=e-1-i) (a:=a) (b:=e) ⟨by omega,by omega⟩ ⟨by omega,by omega⟩ (by omega))
  simp (disch:=omega) [f0,f8,f9,ae,e1,e2,g1,g2,w1,w2,bE,-ah,-aD,-ag]
  exact ⟨by omega,by omega,_,hr4,hps⟩
 ·simp
  exact hK _ _ hr hp
end
end Go.Proofs.YtgjlhdggllakbaaGreatDoor.Vm
namespace Go.Proofs.YtgjlhdggllakbaaGreatDoor.Vm
open Go
set_option maxRecDepth 100000
set_option maxHeartbeats 1000000
attribute [-simp] List.getD_eq_getElem?_getD
section
variable {lim:Nat}{H H0:Hp}{K:V->Hp->Prop}{b g:Nat}{l l0:List EQ}{cf:EQ->EQ->Int}{fs cs:List V}
theorem DI (hs:SqS b H0 l0 l H) (hlim:lim≤b) (hst:bg fs=true∧bg cs=true∧g≠3999999) (hc:lJ b g fs cs H0 l0 cf) (ho:Ordr cf) {f lo hi:Nat} (hf:f+hi≤l0.length∧lo<hi+1) (hl:l0.length≤100000) (hp:HpR cf f (lo+1) hi l)
 (hK:∀H' l',SqS b H0 l0 l' H'->PermR f (f+hi) l l'->HpR cf f lo hi l'->K (.tup []) H') :
 aF tbl lim 119 [.sl b 0 l0.length 4,.int .i64 lo,.int .i64 hi,.int .i64 f,.func (.func g) fs cs] H K:=by
 refine ao tbl_at119 rfl ?_
 have hn:=hs.n
 simp (disch:=omega) [vf119,ae]
 refine bK (n:=hi+1-lo) (fun m fr L H'=>∃l' r,(fr 0=.sl b 0 l0.length 4/\fr 2=.int .i64 hi/\fr 3=.int .i64 f/\fr 4=.func (.func g) fs cs/\fr 10=.int .i64 (r:Nat))/\L=[]/\SqS b H0 l0 l' H'/\PermR f (f+hi) l l'/\SfI cf f lo hi r l'/\r<=hi/\m=hi+1-r) ⟨l,lo,by simp,rfl,hs,PermR.refl,SfI.start hp,by omega,rfl⟩ ?_
 rintro m fr L H' ⟨l',r,⟨f0,f2,f3,f4,f10⟩,rfl,hr,hpp,hI,hrh,hm⟩
 have hlen:=hpp.len
 simp (disch:=omega) [f0,f2,f3,f4,f10,ae]
 refine aC (fun ht => ?_) fun ht => ?_
 ·simp
  exact hK _ _ hr hpp (hI.end1 (by omega))
 have h1:2*r+1<hi:=by omega
 have e1:((f:Int)+(2*(r:Int)+1)).toNat=f+(2*r+1):=by omega
 have e2:((f:Int)+(2*(r:Int)+1)+1).toNat=f+(2*r+1+1):=by omega
 have e3:((f:Int)+(r:Int)).toNat=f+r:=by omega
 have e4:((f:Int)+(2*(r:Int)+1+1)).toNat=f+(2*r+1+1):=by omega
 have g1:=fun L=>be hr.row (i:=f+(2*r+1)) (by omega) (L:=L)
 by_cases h2:2*r+1+1<hi
 ·have g2:=fun L=>be hr.row (i:=f+(2*r+1+1)) (by omega) (L:=L)
  have hgt:(2*(r:Int)+1+1<(hi:Int))=True:=eq_true (by omega)
  simp (disch:=omega) [f0,f2,f3,f4,f10,hgt,ae,e1,e2,g1,g2,hst,bE,-ah,-ag]
  refine hc.at hr (i:=f+(2*r+1)) (j:=f+(2*r+1+1)) (by omega) (by omega) fun H2 x2 hr2 => ?_
  simp
  refine aC (fun hlt => ?_) fun hlt => ?_
  ·have ch0:=ChR.two ho h2 hlt
   have ch:ChR cf f hi r (2*r+1+1) l':=ch0
   have hcr:=ch.rng
   have g3:=fun L=>be hr2.row (i:=f+r) (by omega) (L:=L)
   have g4:=fun L=>be hr2.row (i:=f+(2*r+1+1)) (by omega) (L:=L)
   simp (disch:=omega) [f0,f2,f3,f4,f10,ae,e1,e2,e3,e4,g3,g4,hst,bE,-ah,-ag]
   refine hc.at hr2 (i:=f+r) (j:=f+(2*r+1+1)) (by omega) (by omega) fun H3 x3 hr3 => ?_
   simp
   refine bM (fun hlt => ?_) fun hlt => ?_
   ·simp
    exact hK _ _ hr3 hpp (hI.end2 ho ch hlt)
   ·have g3:=fun L=>be hr3.row (i:=f+r) (by omega) (L:=L)
    have g4:=fun L=>be hr3.row (i:=f+(2*r+1+1)) (by omega) (L:=L)
    have w1:=fun L=>gw hr3 hlim (i:=f+r) (by omega) (L:=L) (gE l' (f+(2*r+1+1)))
    have w2:=fun L=>gh hr3 hlim (i:=f+r) (j:=f+(2*r+1+1)) (by omega) (L:=L)
    have hr4:=hr3.swap (i:=f+r) (j:=f+(2*r+1+1)) (by omega) (by omega)
    have hps:=hpp.trans (aY (l:=l') (i:=f+r) (j:=f+(2*r+1+1)) (a:=f) (b:=f+hi) ⟨by omega,by omega⟩ ⟨by omega,by omega⟩ (by omega))
    have hI2:=hI.step ho ch (by omega) hlt
    simp (disch:=omega) [f0,f2,f3,f4,f10,ae,e1,e2,e3,e4,g3,g4,w1,w2,bE,-ah,-aD,-ag]
    exact ⟨hi+1-(2*r+1+1),by omega,_,2*r+1+1,by omega,hr4,hps,hI2,by omega,rfl⟩
  ·have ch0:=ChR.one ho (hi:=hi) (l:=l') (f:=f) h1 (fun h=>hlt h.2)
   have ch:ChR cf f hi r (2*r+1) l':=ch0
   have hcr:=ch.rng
   have g3:=fun L=>be hr2.row (i:=f+r) (by omega) (L:=L)
   have g4:=fun L=>be hr2.row (i:=f+(2*r+1)) (by omega) (L:=L)
   simp (disch:=omega) [f0,f2,f3,f4,f10,ae,e1,e2,e3,e4,g3,g4,hst,bE,-ah,-ag]
   refine hc.at hr2 (i:=f+r) (j:=f+(2*r+1)) (by omega) (by omega) fun H3 x3 hr3 => ?_
   simp
   refine bM (fun hlt => ?_) fun hlt => ?_
   ·simp
    exact hK _ _ hr3 hpp (hI.end2 ho ch hlt)
   ·have g3:=fun L=>be hr3.row (i:=f+r) (by omega) (L:=L)
    have g4:=fun L=>be hr3.row (i:=f+(2*r+1)) (by omega) (L:=L)
    have w1:=fun L=>gw hr3 hlim (i:=f+r) (by omega) (L:=L) (gE l' (f+(2*r+1)))
    have w2:=fun L=>gh hr3 hlim (i:=f+r) (j:=f+(2*r+1)) (by omega) (L:=L)
    have hr4:=hr3.swap (i:=f+r) (j:=f+(2*r+1)) (by omega) (by omega)
    have hps:=hpp.trans (aY (l:=l') (i:=f+r) (j:=f+(2*r+1)) (a:=f) (b:=f+hi) ⟨by omega,by omega⟩ ⟨by omega,by omega⟩ (by omega))
    have hI2:=hI.step ho ch (by omega) hlt
    simp (disch:=omega) [f0,f2,f3,f4,f10,ae,e1,e2,e3,e4,g3,g4,w1,w2,bE,-ah,-aD,-ag]
    exact ⟨hi+1-(2*r+1),by omega,_,2*r+1,by omega,hr4,hps,hI2,by omega,rfl⟩
 ·have ch0:=ChR.one ho (hi:=hi) (l:=l') (f:=f) h1 (fun h=>h2 h.1)
  have hgd:decide (2*(r:Int)+1+1<(hi:Int))=false:=decide_eq_false (by omega)
  simp (disch:=omega) [f0,f2,f3,f4,f10,hgd,ae,-ah]
  have ch:ChR cf f hi r (2*r+1) l':=ch0
  have hcr:=ch.rng
  have g3:=fun L=>be hr.row (i:=f+r) (by omega) (L:=L)
  have g4:=fun L=>be hr.row (i:=f+(2*r+1)) (by omega) (L:=L)
  simp (disch:=omega) [f0,f2,f3,f4,f10,ae,e1,e2,e3,e4,g3,g4,hst,bE,-ah,-ag]
  refine hc.at hr (i:=f+r) (j:=f+(2*r+1)) (by omega) (by omega) fun H3 x3 hr3 => ?_
  simp
  refine bM (fun hlt => ?_) fun hlt => ?_
  ·simp
   exact hK _ _ hr3 hpp (hI.end2 ho ch hlt)
  ·have g3:=fun L=>be hr3.row (i:=f+r) (by omega) (L:=L)
   have g4:=fun L=>be hr3.row (i:=f+(2*r+1)) (by omega) (L:=L)
   have w1:=fun L=>gw hr3 hlim (i:=f+r) (by omega) (L:=L) (gE l' (f+(2*r+1)))
   have w2:=fun L=>gh hr3 hlim (i:=f+r) (j:=f+(2*r+1)) (by omega) (L:=L)
   have hr4:=hr3.swap (i:=f+r) (j:=f+(2*r+1)) (by omega) (by omega)
   have hps:=hpp.trans (aY (l:=l') (i:=f+r) (j:=f+(2*r+1)) (a:=f) (b:=f+hi) ⟨by omega,by omega⟩ ⟨by omega,by omega⟩ (by omega))
   have hI2:=hI.step ho ch (by omega) hlt
   simp (disch:=omega) [f0,f2,f3,f4,f10,ae,e1,e2,e3,e4,g3,g4,w1,w2,bE,-ah,-aD,-ag]
   exact ⟨hi+1-(2*r+1),by omega,_,2*r+1,by omega,hr4,hps,hI2,by omega,rfl⟩
theorem Od (hs:SqS b H0 l0 l H)(hlim:lim<=b)(hst:bg fs=true/\bg cs=true/\g≠3999999)(hc:lJ b g fs cs H0 l0 cf)(ho:Ordr cf){a e:Nat}(hae:a<e/\e<=l0.length)(hl:l0.length<=100000)
 (hK:∀H' l',SqS b H0 l0 l' H'->PermR a e l l'->br cf a e l'->K (.tup []) H'):aF tbl lim 95 [.sl b 0 l0.length 4,.int .i64 a,.int .i64 e,.func (.func g) fs cs] H K:=by
 refine ao tbl_at95 rfl ?_
 have hn:=hs.n
 obtain ⟨d,rfl⟩:∃d,e=a+d:=⟨e-a,by omega⟩
 have ed:((a+d:Nat):Int)-(a:Int)=(d:Int):=by omega
 have e0:(a:Int)+(d:Int)-(a:Int)=(d:Int):=by omega
 have eq2:((d:Int)-1).tdiv 2=(((d-1) / 2:Nat):Int):=by
  have:(d:Int)-1=((d-1:Nat):Int):=by omega
  rw [this];exact iQ _ 2
 simp (disch:=omega) [vf95,ae,ed,e0,eq2]
 refine b9 0 (fun fr L H'=>∃l',(fr 0=.sl b 0 l0.length 4/\fr 3=.func (.func g) fs cs/\fr 8=.int .i64 a/\fr 9=.int .i64 0/\fr 10=.int .i64 d)/\L=[]/\SqS b H0 l0 l' H'/\PermR a (a+d) l l'/\HpR cf a 0 d l') ?_ ?_
 ·refine bK (n:=(d-1) / 2+1) (fun m fr L H'=>∃l',(fr 0=.sl b 0 l0.length 4/\fr 3=.func (.func g) fs cs/\fr 8=.int .i64 a/\fr 9=.int .i64 0/\fr 10=.int .i64 d/\fr 11=.int .i64 ((m:Nat)-1:Int))/\L=[]/\SqS b H0 l0 l' H'/\PermR a (a+d) l l'/\HpR cf a m d l'/\m<=(d-1) / 2+1) ⟨l,by simp,rfl,hs,PermR.refl,HpR.none,Nat.le_refl _⟩ ?_
  rintro m fr L H' ⟨l',⟨f0,f3,f8,f9,f10,f11⟩,rfl,hr,hp,hH,hm⟩
  have hlen:=hp.len
  simp [f0,f3,f8,f9,f10,f11]
  refine aC (fun ht => ?_) fun ht => ?_
  ·obtain ⟨k,rfl⟩:∃k,m=k+1:=⟨m-1,by omega⟩
   have e1:((k+1:Nat):Int)-1=(k:Int):=by omega
   have e2:(k:Int)+1-1=(k:Int):=by omega
   simp [f0,f3,f8,f9,f10,f11,e1,e2,hst]
   refine DI hr hlim hst hc ho (f:=a) (lo:=k) (hi:=d) (by omega) hl hH fun H2 l2 hr2 hp2 hH2 => ?_
   simp (disch:=omega) [f0,f3,f8,f9,f10,f11,e1,e2,ae]
   exact ⟨k,by omega,by omega,l2,hr2,hp.trans hp2,hH2,by omega⟩
  ·have:m=0:=by omega
   subst this
   simp [f0,f3,f8,f9,f10]
   exact ⟨l',hr,hp,hH⟩
 rintro fr L H' ⟨l',⟨f0,f3,f8,f9,f10⟩,rfl,hr,hp,hH⟩
 simp (disch:=omega) [f0,f3,f8,f9,f10,ae]
 refine bK (n:=d) (fun m fr L H'=>∃l',(fr 0=.sl b 0 l0.length 4/\fr 3=.func (.func g) fs cs/\fr 8=.int .i64 a/\fr 9=.int .i64 0/\fr 10=.int .i64 d/\fr 12=.int .i64 ((m:Nat)-1:Int))/\L=[]/\SqS b H0 l0 l' H'/\PermR a (a+d) l l'/\HpR cf a 0 m l'/\OutR cf a (a+d) a (a+m) l'/\m<=d) ⟨l',by simp [f0,f3,f8,f9,f10],rfl,hr,hp,hH,OutR.start (by omega),Nat.le_refl _⟩ ?_
 clear f0 f3 f8 f9 f10 hr hp hH l'
 rintro m fr L H' ⟨l',⟨f0,f3,f8,f9,f10,f12⟩,rfl,hr,hp,hH,hO,hm⟩
 have hlen:=hp.len
 simp [f0,f3,f8,f9,f10,f12]
 refine aC (fun ht => ?_) fun ht => ?_
 ·obtain ⟨k,rfl⟩:∃k,m=k+1:=⟨m-1,by omega⟩
  have e1:((k+1:Nat):Int)-1=(k:Int):=by omega
  have e2:(k:Int)+1-1=(k:Int):=by omega
  have e3:((a:Int)+(k:Int)).toNat=a+k:=by omega
  have g1:=fun L=>be hr.row (i:=a) (by omega) (L:=L)
  have g2:=fun L=>be hr.row (i:=a+k) (by omega) (L:=L)
  have w1:=fun L=>gw hr hlim (i:=a) (by omega) (L:=L) (gE l' (a+k))
  have w2:=fun L=>gh hr hlim (i:=a) (j:=a+k) (by omega) (L:=L)
  have hr4:=hr.swap (i:=a) (j:=a+k) (by omega) (by omega)
  have hps:=hp.trans (aY (l:=l') (i:=a) (j:=a+k) (a:=a) (b:=a+d) ⟨by omega,by omega⟩ ⟨by omega,by omega⟩ (by omega))
  obtain ⟨hH1,hO1⟩:=hH.pop ho hO (by omega)
  simp (disch:=omega) [f0,f3,f8,f9,f10,f12,e1,e2,e3,ae,g1,g2,w1,w2,hst,bE,-ah,-aD,-ag]
  refine DI hr4 hlim hst hc ho (f:=a) (lo:=0) (hi:=k) (by omega) hl hH1 fun H2 l2 hr2 hp2 hH2 => ?_
  simp (disch:=omega) [f0,f3,f8,f9,f10,f12,e1,e2,ae]
  exact ⟨k,by omega,by omega,l2,hr2,hps.trans (hp2.wide (Nat.le_refl _) (by omega)),hH2,hO1.perm hp2 (by rw [uP];omega),by omega⟩
 ·have:m=0:=by omega
  subst this
  simp
  exact hK _ _ hr hp (hO.sort fun p q h1 h2 h3=>by omega)
theorem Pe (hs:SqS b H0 l0 l H) (hlim:lim≤b) (hst:bg fs=true∧bg cs=true∧g≠3999999) (hc:lJ b g fs cs H0 l0 cf) (ho:Ordr cf) {a e v:Nat} (hae:a≤v∧v<e∧e≤l0.length) (hl:l0.length≤100000)
 (hK:∀H' l' m ok,SqS b H0 l0 l' H'->PermR a e l l'->PartR cf a e m l'->K (.tup [.int .i64 (m:Nat),.bool ok]) H'):aF tbl lim 101 [.sl b 0 l0.length 4,.int .i64 a,.int .i64 e,.int .i64 v,.func (.func g) fs cs] H K:=by
 refine ao tbl_at101 rfl ?_
 have hn:=hs.n
 have g1:=fun L=>be hs.row (i:=a) (by omega) (L:=L)
 have g2:=fun L=>be hs.row (i:=v) (by omega) (L:=L)
 have w1:=fun L=>gw hs hlim (i:=a) (by omega) (L:=L) (gE l v)
 have w2:=fun L=>gh hs hlim (i:=a) (j:=v) (by omega) (L:=L)
 have hs1:=hs.swap (i:=a) (j:=v) (by omega) (by omega)
 have hp1:PermR a e l (swp l a v):=aY ⟨by omega,by omega⟩ ⟨by omega,by omega⟩ (by omega)
 have e0:(e:Int)-1=((e-1:Nat):Int):=by omega
 simp (disch:=omega) [vf101,ae,g1,g2,w1,w2,hst,bE,e0,-ah,-aD,-ag]
 refine b9 0 (fun fr L H'=>∃l' i j,(fr 0=.sl b 0 l0.length 4/\fr 1=.int .i64 a/\fr 4=.func (.func g) fs cs/\fr 12=.int .i64 (i:Nat)/\fr 13=.int .i64 (j:Nat))/\L=[]/\SqS b H0 l0 l' H'/\PermR a e l l'/\PtI cf a e i j l'/\j+1-i<=(e-a)/\(i<=j->¬cf (gE l' i) (gE l' a)<0)) ?_ ?_
 ·refine bK (n:=(e-a)) (fun m fr L H'=>∃l' i j,(fr 0=.sl b 0 l0.length 4/\fr 1=.int .i64 a/\fr 4=.func (.func g) fs cs/\fr 12=.int .i64 (i:Nat)/\fr 13=.int .i64 (j:Nat))/\L=[]/\SqS b H0 l0 l' H'/\PermR a e l l'/\PtI cf a e i j l'/\j+1-i<=m/\m<=(e-a)) ⟨swp l a v,a+1,e-1,by simp,rfl,hs1,hp1,PtI.start (by omega),by omega,Nat.le_refl _⟩ ?_
  rintro m fr L H' ⟨l',i,j,⟨f0,f1,f4,f12,f13⟩,rfl,hr,hp,hI,hm,hm2⟩
  have hrg:=hI.rng
  have hlen:=hp.len
  by_cases hij:i<=j
  ·have hgt:((i:Int)<=(j:Int))=True:=eq_true (by omega)
   have g1:=fun L=>be hr.row (i:=i) (by omega) (L:=L)
   have g2:=fun L=>be hr.row (i:=a) (by omega) (L:=L)
   simp (disch:=omega) [f0,f1,f4,f12,f13,hgt,ae,g1,g2,hst,bE,-ah,-ag]
   refine hc.at hr (i:=i) (j:=a) (by omega) (by omega) fun H2 x2 hr2 => ?_
   simp
   refine aC (fun hlt => ?_) fun hlt => ?_
   ·simp (disch:=omega) [f0,f1,f4,f12,f13,ae]
    exact ⟨m-1,by omega,l',i+1,j,by omega,hr2,hp,hI.up hij hlt,by omega,by omega⟩
   ·simp [f0,f1,f4,f12,f13]
    exact ⟨l',i,j,by omega,hr2,hp,hI,by omega,fun _=>by omega⟩
  ·have hgt:((i:Int)<=(j:Int))=False:=eq_false (by omega)
   simp (disch:=omega) [f0,f1,f4,f12,f13,hgt]
   exact ⟨l',i,j,by omega,hr,hp,hI,by omega,fun h=>absurd h hij⟩
 rintro fr L H' ⟨l',i,j,⟨f0,f1,f4,f12,f13⟩,rfl,hr,hp,hI,hm,hup⟩
 simp [f0,f1,f4,f12,f13]
 refine b9 2 (fun fr L H'=>∃l' i j,(fr 0=.sl b 0 l0.length 4/\fr 1=.int .i64 a/\fr 4=.func (.func g) fs cs/\fr 12=.int .i64 (i:Nat)/\fr 13=.int .i64 (j:Nat))/\L=[]/\SqS b H0 l0 l' H'/\PermR a e l l'/\PtI cf a e i j l'/\j+1-i<=(e-a)/\(i<=j->¬cf (gE l' i) (gE l' a)<0)/\(i<=j->cf (gE l' j) (gE l' a)<0)) ?_ ?_
 ·refine bK (n:=(e-a)) (fun m fr L H'=>∃l' i j,(fr 0=.sl b 0 l0.length 4/\fr 1=.int .i64 a/\fr 4=.func (.func g) fs cs/\fr 12=.int .i64 (i:Nat)/\fr 13=.int .i64 (j:Nat))/\L=[]/\SqS b H0 l0 l' H'/\PermR a e l l'/\PtI cf a e i j l'/\(i<=j->¬cf (gE l' i) (gE l' a)<0)/\j+1-i<=m/\m<=(e-a)) ⟨l',i,j,by simp [f0,f1,f4,f12,f13],rfl,hr,hp,hI,hup,hm,Nat.le_refl _⟩ ?_
  clear f0 f1 f4 f12 f13 hr hp hI hup hm l' i j
  rintro m fr L H' ⟨l',i,j,⟨f0,f1,f4,f12,f13⟩,rfl,hr,hp,hI,hup,hm,hm2⟩
  have hrg:=hI.rng
  have hlen:=hp.len
  by_cases hij:i<=j
  ·have hgt:((i:Int)<=(j:Int))=True:=eq_true (by omega)
   have g1:=fun L=>be hr.row (i:=j) (by omega) (L:=L)
   have g2:=fun L=>be hr.row (i:=a) (by omega) (L:=L)
   simp (disch:=omega) [f0,f1,f4,f12,f13,hgt,ae,g1,g2,hst,bE,-ah,-ag]
   refine hc.at hr (i:=j) (j:=a) (by omega) (by omega) fun H2 x2 hr2 => ?_
   simp
   refine bM (fun hlt => ?_) fun hlt => ?_
   ·have e1:(j:Int)-1=((j-1:Nat):Int):=by omega
    simp (disch:=omega) [f0,f1,f4,f12,f13,ae,e1]
    exact ⟨m-1,by omega,l',i,j-1,by omega,hr2,hp,hI.down hij hlt,fun h=>by have:=hup (by omega);omega,by omega,by omega⟩
   ·simp [f0,f1,f4,f12,f13]
    exact ⟨l',i,j,by omega,hr2,hp,hI,by omega,fun h=>by have:=hup h;omega,fun _=>by omega⟩
  ·have hgt:((i:Int)<=(j:Int))=False:=eq_false (by omega)
   simp (disch:=omega) [f0,f1,f4,f12,f13,hgt]
   exact ⟨l',i,j,by omega,hr,hp,hI,by omega,fun h=>absurd h hij,fun h=>absurd h hij⟩
 clear f0 f1 f4 f12 f13 hr hp hI hup hm l' i j
 rintro fr L H' ⟨l',i,j,⟨f0,f1,f4,f12,f13⟩,rfl,hr,hp,hI,hm,hup,hdn⟩
 have hrg:=hI.rng
 have hlen:=hp.len
 by_cases hij:i<=j
 ·have hgt:((j:Int)<(i:Int))=False:=eq_false (by omega)
  have hi0:=hup hij
  have hj0:=hdn hij
  have g1:=fun L=>be hr.row (i:=i) (by omega) (L:=L)
  have g2:=fun L=>be hr.row (i:=j) (by omega) (L:=L)
  have w1:=fun L=>gw hr hlim (i:=i) (by omega) (L:=L) (gE l' j)
  have w2:=fun L=>gh hr hlim (i:=i) (j:=j) (by omega) (L:=L)
  have hr4:=hr.swap (i:=i) (j:=j) (by omega) (by omega)
  have hps:=hp.trans (aY (l:=l') (i:=i) (j:=j) (a:=a) (b:=e) ⟨by omega,by omega⟩ ⟨by omega,by omega⟩ (by omega))
  have hI2:=hI.swap ho hij (by omega) hi0 hj0
  have hrg2:=hI2.rng
  have e1:(j:Int)-1=((j-1:Nat):Int):=by omega
  simp (disch:=omega) [f0,f1,f4,f12,f13,hgt,e1,ae,g1,g2,w1,w2,hst,bE,-ah,-aD,-ag]
  refine bK (n:=(e-a)) (fun m fr L H'=>∃l' i j,(fr 0=.sl b 0 l0.length 4/\fr 1=.int .i64 a/\fr 4=.func (.func g) fs cs/\fr 12=.int .i64 (i:Nat)/\fr 13=.int .i64 (j:Nat))/\L=[]/\SqS b H0 l0 l' H'/\PermR a e l l'/\PtI cf a e i j l'/\j+1-i<=m/\m<=(e-a)) ⟨swp l' i j,i+1,j-1,by simp [f0,f1,f4,f12,f13],rfl,hr4,hps,hI2,by omega,Nat.le_refl _⟩ ?_
  clear f0 f1 f4 f12 f13 hr hp hI hup hdn hm hrg hlen hij hgt hi0 hj0 g1 g2 w1 w2 hr4 hps hI2 hrg2 e1 l' i j
  rintro n fr L H' ⟨l',i,j,⟨f0,f1,f4,f12,f13⟩,rfl,hr,hp,hI,hm,hn2⟩
  simp [f0,f1,f4,f12,f13]
  refine b9 6 (fun fr L H'=>∃l' i j,(fr 0=.sl b 0 l0.length 4/\fr 1=.int .i64 a/\fr 4=.func (.func g) fs cs/\fr 12=.int .i64 (i:Nat)/\fr 13=.int .i64 (j:Nat))/\L=[]/\SqS b H0 l0 l' H'/\PermR a e l l'/\PtI cf a e i j l'/\j+1-i<=n/\(i<=j->¬cf (gE l' i) (gE l' a)<0)) ?_ ?_
  ·refine bK (n:=n) (fun m fr L H'=>∃l' i j,(fr 0=.sl b 0 l0.length 4/\fr 1=.int .i64 a/\fr 4=.func (.func g) fs cs/\fr 12=.int .i64 (i:Nat)/\fr 13=.int .i64 (j:Nat))/\L=[]/\SqS b H0 l0 l' H'/\PermR a e l l'/\PtI cf a e i j l'/\j+1-i<=m/\m<=n) ⟨l',i,j,by simp [f0,f1,f4,f12,f13],rfl,hr,hp,hI,hm,Nat.le_refl _⟩ ?_
   clear f0 f1 f4 f12 f13 hr hp hI hm l' i j
   rintro m fr L H' ⟨l',i,j,⟨f0,f1,f4,f12,f13⟩,rfl,hr,hp,hI,hm,hm2⟩
   have hrg:=hI.rng
   have hlen:=hp.len
   by_cases hij:i<=j
   ·have hgt:((i:Int)<=(j:Int))=True:=eq_true (by omega)
    have g1:=fun L=>be hr.row (i:=i) (by omega) (L:=L)
    have g2:=fun L=>be hr.row (i:=a) (by omega) (L:=L)
    simp (disch:=omega) [f0,f1,f4,f12,f13,hgt,ae,g1,g2,hst,bE,-ah,-ag]
    refine hc.at hr (i:=i) (j:=a) (by omega) (by omega) fun H2 x2 hr2 => ?_
    simp
    refine aC (fun hlt => ?_) fun hlt => ?_
    ·simp (disch:=omega) [f0,f1,f4,f12,f13,ae]
     exact ⟨m-1,by omega,l',i+1,j,by omega,hr2,hp,hI.up hij hlt,by omega,by omega⟩
    ·simp [f0,f1,f4,f12,f13]
     exact ⟨l',i,j,by omega,hr2,hp,hI,by omega,fun _=>by omega⟩
   ·have hgt:((i:Int)<=(j:Int))=False:=eq_false (by omega)
    simp (disch:=omega) [f0,f1,f4,f12,f13,hgt]
    exact ⟨l',i,j,by omega,hr,hp,hI,by omega,fun h=>absurd h hij⟩
  clear f0 f1 f4 f12 f13 hr hp hI hm l' i j
  rintro fr L H' ⟨l',i,j,⟨f0,f1,f4,f12,f13⟩,rfl,hr,hp,hI,hm,hup⟩
  simp [f0,f1,f4,f12,f13]
  refine b9 8 (fun fr L H'=>∃l' i j,(fr 0=.sl b 0 l0.length 4/\fr 1=.int .i64 a/\fr 4=.func (.func g) fs cs/\fr 12=.int .i64 (i:Nat)/\fr 13=.int .i64 (j:Nat))/\L=[]/\SqS b H0 l0 l' H'/\PermR a e l l'/\PtI cf a e i j l'/\j+1-i<=n/\(i<=j->¬cf (gE l' i) (gE l' a)<0)/\(i<=j->cf (gE l' j) (gE l' a)<0)) ?_ ?_
  ·refine bK (n:=n) (fun m fr L H'=>∃l' i j,(fr 0=.sl b 0 l0.length 4/\fr 1=.int .i64 a/\fr 4=.func (.func g) fs cs/\fr 12=.int .i64 (i:Nat)/\fr 13=.int .i64 (j:Nat))/\L=[]/\SqS b H0 l0 l' H'/\PermR a e l l'/\PtI cf a e i j l'/\(i<=j->¬cf (gE l' i) (gE l' a)<0)/\j+1-i<=m/\m<=n) ⟨l',i,j,by simp [f0,f1,f4,f12,f13],rfl,hr,hp,hI,hup,hm,Nat.le_refl _⟩ ?_
   clear f0 f1 f4 f12 f13 hr hp hI hup hm l' i j
   rintro m fr L H' ⟨l',i,j,⟨f0,f1,f4,f12,f13⟩,rfl,hr,hp,hI,hup,hm,hm2⟩
   have hrg:=hI.rng
   have hlen:=hp.len
   by_cases hij:i<=j
   ·have hgt:((i:Int)<=(j:Int))=True:=eq_true (by omega)
    have g1:=fun L=>be hr.row (i:=j) (by omega) (L:=L)
    have g2:=fun L=>be hr.row (i:=a) (by omega) (L:=L)
    simp (disch:=omega) [f0,f1,f4,f12,f13,hgt,ae,g1,g2,hst,bE,-ah,-ag]
    refine hc.at hr (i:=j) (j:=a) (by omega) (by omega) fun H2 x2 hr2 => ?_
    simp
    refine bM (fun hlt => ?_) fun hlt => ?_
    ·have e1:(j:Int)-1=((j-1:Nat):Int):=by omega
     simp (disch:=omega) [f0,f1,f4,f12,f13,ae,e1]
     exact ⟨m-1,by omega,l',i,j-1,by omega,hr2,hp,hI.down hij hlt,fun h=>by have:=hup (by omega);omega,by omega,by omega⟩
    ·simp [f0,f1,f4,f12,f13]
     exact ⟨l',i,j,by omega,hr2,hp,hI,by omega,fun h=>by have:=hup h;omega,fun _=>by omega⟩
   ·have hgt:((i:Int)<=(j:Int))=False:=eq_false (by omega)
    simp (disch:=omega) [f0,f1,f4,f12,f13,hgt]
    exact ⟨l',i,j,by omega,hr,hp,hI,by omega,fun h=>absurd h hij,fun h=>absurd h hij⟩
  clear f0 f1 f4 f12 f13 hr hp hI hup hm l' i j
  rintro fr L H' ⟨l',i,j,⟨f0,f1,f4,f12,f13⟩,rfl,hr,hp,hI,hm,hup,hdn⟩
  have hrg:=hI.rng
  have hlen:=hp.len
  by_cases hij:i<=j
  ·have hgt:((j:Int)<(i:Int))=False:=eq_false (by omega)
   have hi0:=hup hij
   have hj0:=hdn hij
   have g1:=fun L=>be hr.row (i:=i) (by omega) (L:=L)
   have g2:=fun L=>be hr.row (i:=j) (by omega) (L:=L)
   have w1:=fun L=>gw hr hlim (i:=i) (by omega) (L:=L) (gE l' j)
   have w2:=fun L=>gh hr hlim (i:=i) (j:=j) (by omega) (L:=L)
   have hr4:=hr.swap (i:=i) (j:=j) (by omega) (by omega)
   have hps:=hp.trans (aY (l:=l') (i:=i) (j:=j) (a:=a) (b:=e) ⟨by omega,by omega⟩ ⟨by omega,by omega⟩ (by omega))
   have hI2:=hI.swap ho hij (by omega) hi0 hj0
   have hrg2:=hI2.rng
   have e1:(j:Int)-1=((j-1:Nat):Int):=by omega
   simp (disch:=omega) [f0,f1,f4,f12,f13,hgt,e1,ae,g1,g2,w1,w2,hst,bE,-ah,-aD,-ag]
   exact ⟨n-1,by omega,_,i+1,j-1,by omega,hr4,hps,hI2,by omega,by omega⟩
  ·have hgt:((j:Int)<(i:Int))=True:=eq_true (by omega)
   have hij2:¬i<=j:=hij
   have g1:=fun L=>be hr.row (i:=j) (by omega) (L:=L)
   have g2:=fun L=>be hr.row (i:=a) (by omega) (L:=L)
   have w1:=fun L=>gw hr hlim (i:=j) (by omega) (L:=L) (gE l' a)
   have w2:=fun L=>gh hr hlim (i:=j) (j:=a) (by omega) (L:=L)
   have hr4:=hr.swap (i:=j) (j:=a) (by omega) (by omega)
   have hps:=hp.trans (aY (l:=l') (i:=j) (j:=a) (a:=a) (b:=e) ⟨by omega,by omega⟩ ⟨by omega,by omega⟩ (by omega))
   simp (disch:=omega) [f0,f1,f4,f12,f13,hgt,ae,g1,g2,w1,w2,hst,bE,-ah,-aD,-ag]
   exact hK _ _ j false hr4 hps (hI.done ho hij2 (by omega))
 ·have hgt:((j:Int)<(i:Int))=True:=eq_true (by omega)
  have hij2:¬i<=j:=hij
  have g1:=fun L=>be hr.row (i:=j) (by omega) (L:=L)
  have g2:=fun L=>be hr.row (i:=a) (by omega) (L:=L)
  have w1:=fun L=>gw hr hlim (i:=j) (by omega) (L:=L) (gE l' a)
  have w2:=fun L=>gh hr hlim (i:=j) (j:=a) (by omega) (L:=L)
  have hr4:=hr.swap (i:=j) (j:=a) (by omega) (by omega)
  have hps:=hp.trans (aY (l:=l') (i:=j) (j:=a) (a:=a) (b:=e) ⟨by omega,by omega⟩ ⟨by omega,by omega⟩ (by omega))
  simp (disch:=omega) [f0,f1,f4,f12,f13,hgt,ae,g1,g2,w1,w2,hst,bE,-ah,-aD,-ag]
  exact hK _ _ j true hr4 hps (hI.done ho hij2 (by omega))
end
section
variable {T:Tbl}{lim:Nat}
end
section
variable {lim:Nat}{H H0:Hp}{K:V->Hp->Prop}{b g:Nat}{l l0:List EQ}{cf:EQ->EQ->Int}{fs cs:List V}
theorem GX (hs:SqS b H0 l0 l H) (hlim:lim≤b) (hst:bg fs=true∧bg cs=true∧g≠3999999) (hc:lJ b g fs cs H0 l0 cf) (ho:Ordr cf) {a e v:Nat} (hae:a≤v∧v<e∧e≤l0.length) (hl:l0.length≤100000)
 (hmin:∀k,a<=k->k<e->leC cf (l.getD v default) (l.getD k default))
 (hK:∀H' l' m,SqS b H0 l0 l' H'->PermR a e l l'->(a<m/\m<=e)->(∀p q,a<=p->p<m->p<q->q<e->leC cf (l'.getD p default) (l'.getD q default))->K (.int .i64 (m:Nat)) H'):aF tbl lim 100 [.sl b 0 l0.length 4,.int .i64 a,.int .i64 e,.int .i64 v,.func (.func g) fs cs] H K:=by
 refine ao tbl_at100 rfl ?_
 have hn:=hs.n
 have g1:=fun L=>be hs.row (i:=a) (by omega) (L:=L)
 have g2:=fun L=>be hs.row (i:=v) (by omega) (L:=L)
 have w1:=fun L=>gw hs hlim (i:=a) (by omega) (L:=L) (gE l v)
 have w2:=fun L=>gh hs hlim (i:=a) (j:=v) (by omega) (L:=L)
 have hs1:=hs.swap (i:=a) (j:=v) (by omega) (by omega)
 have hp1:PermR a e l (swp l a v):=aY ⟨by omega,by omega⟩ ⟨by omega,by omega⟩ (by omega)
 have e0:(e:Int)-1=((e-1:Nat):Int):=by omega
 have hm1:=sN (cf:=cf) (l:=l) (a:=a) (b:=e) (v:=v) (by omega) (by omega) hmin
 simp (disch:=omega) [vf100,ae,g1,g2,w1,w2,hst,bE,e0,-ah,-aD,-ag]
 refine bK (n:=(e-a)) (fun m fr L H'=>∃l' i j,(fr 0=.sl b 0 l0.length 4/\fr 1=.int .i64 a/\fr 4=.func (.func g) fs cs/\fr 11=.int .i64 (i:Nat)/\fr 12=.int .i64 (j:Nat))/\L=[]/\SqS b H0 l0 l' H'/\PermR a e l l'/\PeI cf a e i j l'/\j+1-i<=m/\m<=(e-a)) ⟨swp l a v,a+1,e-1,by simp,rfl,hs1,hp1,PeI.start (by omega) hm1,by omega,Nat.le_refl _⟩ ?_
 rintro n fr L H' ⟨l',i,j,⟨f0,f1,f4,f11,f12⟩,rfl,hr,hp,hI,hm,hn2⟩
 simp [f0,f1,f4,f11,f12]
 refine b9 2 (fun fr L H'=>∃l' i j,(fr 0=.sl b 0 l0.length 4/\fr 1=.int .i64 a/\fr 4=.func (.func g) fs cs/\fr 11=.int .i64 (i:Nat)/\fr 12=.int .i64 (j:Nat))/\L=[]/\SqS b H0 l0 l' H'/\PermR a e l l'/\PeI cf a e i j l'/\j+1-i<=n/\(i<=j->cf (gE l' a) (gE l' i)<0)) ?_ ?_
 ·refine bK (n:=n) (fun m fr L H'=>∃l' i j,(fr 0=.sl b 0 l0.length 4/\fr 1=.int .i64 a/\fr 4=.func (.func g) fs cs/\fr 11=.int .i64 (i:Nat)/\fr 12=.int .i64 (j:Nat))/\L=[]/\SqS b H0 l0 l' H'/\PermR a e l l'/\PeI cf a e i j l'/\j+1-i<=m/\m<=n) ⟨l',i,j,by simp [f0,f1,f4,f11,f12],rfl,hr,hp,hI,hm,Nat.le_refl _⟩ ?_
  clear f0 f1 f4 f11 f12 hr hp hI hm l' i j
  rintro m fr L H' ⟨l',i,j,⟨f0,f1,f4,f11,f12⟩,rfl,hr,hp,hI,hm,hm2⟩
  have hrg:=hI.rng
  have hlen:=hp.len
  by_cases hij:i<=j
  ·have hgt:((i:Int)<=(j:Int))=True:=eq_true (by omega)
   have g1:=fun L=>be hr.row (i:=a) (by omega) (L:=L)
   have g2:=fun L=>be hr.row (i:=i) (by omega) (L:=L)
   simp (disch:=omega) [f0,f1,f4,f11,f12,hgt,ae,g1,g2,hst,bE,-ah,-ag]
   refine hc.at hr (i:=a) (j:=i) (by omega) (by omega) fun H2 x2 hr2 => ?_
   simp
   refine bM (fun hlt => ?_) fun hlt => ?_
   ·simp (disch:=omega) [f0,f1,f4,f11,f12,ae]
    exact ⟨m-1,by omega,l',i+1,j,by omega,hr2,hp,hI.up hij hlt,by omega,by omega⟩
   ·simp [f0,f1,f4,f11,f12]
    exact ⟨l',i,j,by omega,hr2,hp,hI,by omega,fun _=>hlt⟩
  ·have hgt:((i:Int)<=(j:Int))=False:=eq_false (by omega)
   simp (disch:=omega) [f0,f1,f4,f11,f12,hgt]
   exact ⟨l',i,j,by omega,hr,hp,hI,by omega,fun h=>absurd h hij⟩
 clear f0 f1 f4 f11 f12 hr hp hI hm l' i j
 rintro fr L H' ⟨l',i,j,⟨f0,f1,f4,f11,f12⟩,rfl,hr,hp,hI,hm,hup⟩
 simp [f0,f1,f4,f11,f12]
 refine b9 4 (fun fr L H'=>∃l' i j,(fr 0=.sl b 0 l0.length 4/\fr 1=.int .i64 a/\fr 4=.func (.func g) fs cs/\fr 11=.int .i64 (i:Nat)/\fr 12=.int .i64 (j:Nat))/\L=[]/\SqS b H0 l0 l' H'/\PermR a e l l'/\PeI cf a e i j l'/\j+1-i<=n/\(i<=j->cf (gE l' a) (gE l' i)<0)/\(i<=j->¬cf (gE l' a) (gE l' j)<0)) ?_ ?_
 ·refine bK (n:=n) (fun m fr L H'=>∃l' i j,(fr 0=.sl b 0 l0.length 4/\fr 1=.int .i64 a/\fr 4=.func (.func g) fs cs/\fr 11=.int .i64 (i:Nat)/\fr 12=.int .i64 (j:Nat))/\L=[]/\SqS b H0 l0 l' H'/\PermR a e l l'/\PeI cf a e i j l'/\(i<=j->cf (gE l' a) (gE l' i)<0)/\j+1-i<=m/\m<=n) ⟨l',i,j,by simp [f0,f1,f4,f11,f12],rfl,hr,hp,hI,hup,hm,Nat.le_refl _⟩ ?_
  clear f0 f1 f4 f11 f12 hr hp hI hup hm l' i j
  rintro m fr L H' ⟨l',i,j,⟨f0,f1,f4,f11,f12⟩,rfl,hr,hp,hI,hup,hm,hm2⟩
  have hrg:=hI.rng
  have hlen:=hp.len
  by_cases hij:i<=j
  ·have hgt:((i:Int)<=(j:Int))=True:=eq_true (by omega)
   have g1:=fun L=>be hr.row (i:=a) (by omega) (L:=L)
   have g2:=fun L=>be hr.row (i:=j) (by omega) (L:=L)
   simp (disch:=omega) [f0,f1,f4,f11,f12,hgt,ae,g1,g2,hst,bE,-ah,-ag]
   refine hc.at hr (i:=a) (j:=j) (by omega) (by omega) fun H2 x2 hr2 => ?_
   simp
   refine aC (fun hlt => ?_) fun hlt => ?_
   ·have e1:(j:Int)-1=((j-1:Nat):Int):=by omega
    simp (disch:=omega) [f0,f1,f4,f11,f12,e1,ae]
    exact ⟨m-1,by omega,l',i,j-1,by omega,hr2,hp,hI.down hij,fun h=>hup (by omega),by omega,by omega⟩
   ·simp [f0,f1,f4,f11,f12]
    exact ⟨l',i,j,by omega,hr2,hp,hI,by omega,hup,fun _=>by omega⟩
  ·have hgt:((i:Int)<=(j:Int))=False:=eq_false (by omega)
   simp (disch:=omega) [f0,f1,f4,f11,f12,hgt]
   exact ⟨l',i,j,by omega,hr,hp,hI,by omega,fun h=>absurd h hij,fun h=>absurd h hij⟩
 clear f0 f1 f4 f11 f12 hr hp hI hup hm l' i j
 rintro fr L H' ⟨l',i,j,⟨f0,f1,f4,f11,f12⟩,rfl,hr,hp,hI,hm,hup,hdn⟩
 have hrg:=hI.rng
 have hlen:=hp.len
 by_cases hij:i<=j
 ·have hgt:((j:Int)<(i:Int))=False:=eq_false (by omega)
  have hi0:=hup hij
  have hj0:=hdn hij
  have g1:=fun L=>be hr.row (i:=i) (by omega) (L:=L)
  have g2:=fun L=>be hr.row (i:=j) (by omega) (L:=L)
  have w1:=fun L=>gw hr hlim (i:=i) (by omega) (L:=L) (gE l' j)
  have w2:=fun L=>gh hr hlim (i:=i) (j:=j) (by omega) (L:=L)
  have hr4:=hr.swap (i:=i) (j:=j) (by omega) (by omega)
  have hps:=hp.trans (aY (l:=l') (i:=i) (j:=j) (a:=a) (b:=e) ⟨by omega,by omega⟩ ⟨by omega,by omega⟩ (by omega))
  have hI2:=hI.swap ho hij (by omega) hi0 hj0
  have hrg2:=hI2.rng
  have e1:(j:Int)-1=((j-1:Nat):Int):=by omega
  simp (disch:=omega) [f0,f1,f4,f11,f12,hgt,e1,ae,g1,g2,w1,w2,hst,bE,-ah,-aD,-ag]
  exact ⟨n-1,by omega,_,i+1,j-1,by omega,hr4,hps,hI2,by omega,by omega⟩
 ·have hgt:((j:Int)<(i:Int))=True:=eq_true (by omega)
  simp [f0,f1,f4,f11,f12,hgt]
  exact hK _ _ i hr hp (by omega) (hI.done ho)
end
section
variable {lim:Nat}{H H0:Hp}{K:V->Hp->Prop}{b g:Nat}{l l0:List EQ}{cf:EQ->EQ->Int}{fs cs:List V}
theorem QE (hs:SqS b H0 l0 l H) (hlim:lim≤b) (hst:bg fs=true∧bg cs=true∧g≠3999999) (hc:lJ b g fs cs H0 l0 cf) (ho:Ordr cf) {a e:Nat} (hae:a<e∧e≤l0.length) (hl:l0.length≤100000) (hg:GdR cf a e l)
 (hK:∀H' l' ok,SqS b H0 l0 l' H'->PermR a e l l'->(ok=true->br cf a e l')->K (.bool ok) H'):aF tbl lim 99 [.sl b 0 l0.length 4,.int .i64 a,.int .i64 e,.func (.func g) fs cs] H K:=by
 refine ao tbl_at99 rfl ?_
 have hn:=hs.n
 simp (disch:=omega) [vf99,ae]
 refine aO 5 (fun c fr L H'=>∃l' i,(fr 0=.sl b 0 l0.length 4/\fr 1=.int .i64 a/\fr 2=.int .i64 e/\fr 3=.func (.func g) fs cs/\fr 9=.int .i64 (i:Nat)/\fr 10=.int .i64 (c:Nat))/\L=[]/\SqS b H0 l0 l' H'/\PermR a e l l'/\(a+1<=i/\i<=e)/\br cf a i l') ⟨l,a+1,by simp,rfl,hs,PermR.refl,by omega,br.one (by omega)⟩ ?_
 rintro c hc5 fr L H' ⟨l',i,⟨f0,f1,f2,f3,f9,f10⟩,rfl,hr,hp,hi,hso⟩
 simp [f0,f1,f2,f3,f9,f10]
 refine aC (fun ht => ?_) fun ht => ?_
 case refine_2 =>
  simp
  exact hK _ _ false hr hp (fun h=>by cases h)
 simp [f0,f1,f2,f3,f9,f10]
 refine b9 2 (fun fr L H'=>∃l' i,(fr 0=.sl b 0 l0.length 4/\fr 1=.int .i64 a/\fr 2=.int .i64 e/\fr 3=.func (.func g) fs cs/\fr 9=.int .i64 (i:Nat)/\fr 10=.int .i64 (c:Nat))/\L=[]/\SqS b H0 l0 l' H'/\PermR a e l l'/\(a+1<=i/\i<=e)/\br cf a i l'/\(i<e->cf (gE l' i) (gE l' (i-1))<0)) ?_ ?_
 ·refine bK (n:=e-i) (fun m fr L H'=>∃l' i,(fr 0=.sl b 0 l0.length 4/\fr 1=.int .i64 a/\fr 2=.int .i64 e/\fr 3=.func (.func g) fs cs/\fr 9=.int .i64 (i:Nat)/\fr 10=.int .i64 (c:Nat))/\L=[]/\SqS b H0 l0 l' H'/\PermR a e l l'/\(a+1<=i/\i<=e)/\br cf a i l'/\m=e-i) ⟨l',i,by simp [f0,f1,f2,f3,f9,f10],rfl,hr,hp,hi,hso,rfl⟩ ?_
  clear f0 f1 f2 f3 f9 f10 hr hp hi hso l' i
  rintro m fr L H' ⟨l',i,⟨f0,f1,f2,f3,f9,f10⟩,rfl,hr,hp,hi,hso,hm⟩
  have hlen:=hp.len
  by_cases hie:i<e
  ·have hgt:((i:Int)<(e:Int))=True:=eq_true (by omega)
   have e1:((i:Int)-1).toNat=i-1:=by omega
   have g1:=fun L=>be hr.row (i:=i) (by omega) (L:=L)
   have g2:=fun L=>be hr.row (i:=i-1) (by omega) (L:=L)
   simp (disch:=omega) [f0,f1,f2,f3,f9,f10,hgt,e1,ae,g1,g2,hst,bE,-ah,-ag]
   refine hc.at hr (i:=i) (j:=i-1) (by omega) (by omega) fun H2 x2 hr2 => ?_
   simp
   refine bM (fun hlt => ?_) fun hlt => ?_
   ·simp (disch:=omega) [f0,f1,f2,f3,f9,f10,ae]
    exact ⟨m-1,by omega,l',i+1,by omega,hr2,hp,by omega,hso.next ho (by omega) hlt,by omega⟩
   ·simp [f0,f1,f2,f3,f9,f10]
    exact ⟨l',i,by omega,hr2,hp,by omega,hso,fun _=>hlt⟩
  ·have hgt:((i:Int)<(e:Int))=False:=eq_false (by omega)
   simp (disch:=omega) [f0,f1,f2,f3,f9,f10,hgt]
   exact ⟨l',i,by omega,hr,hp,by omega,hso,fun h=>absurd h hie⟩
 clear f0 f1 f2 f3 f9 f10 hr hp hi hso l' i
 rintro fr L H' ⟨l',i,⟨f0,f1,f2,f3,f9,f10⟩,rfl,hr,hp,hi,hso,hlt⟩
 have hlen:=hp.len
 simp [f0,f1,f2,f3,f9,f10]
 by_cases hie:i=e
 ·subst hie
  simp
  exact hK _ _ true hr hp fun _=>hso
 have hie2:((i:Int)=(e:Int))=False:=eq_false (by omega)
 replace hlt:=hlt (by omega)
 simp (disch:=omega) [hie,hie2,f0,f1,f2,f3,f9,f10,ae]
 refine aC (fun h50 => ?_) fun h50 => ?_
 ·simp
  exact hK _ _ false hr hp (fun h=>by cases h)
 have e1:((i:Int)-1).toNat=i-1:=by omega
 have g1:=fun L=>be hr.row (i:=i) (by omega) (L:=L)
 have g2:=fun L=>be hr.row (i:=i-1) (by omega) (L:=L)
 have w1:=fun L=>gw hr hlim (i:=i) (by omega) (L:=L) (gE l' (i-1))
 have w2:=fun L=>gh hr hlim (i:=i) (j:=i-1) (by omega) (L:=L)
 have hr4:=hr.swap (i:=i) (j:=i-1) (by omega) (by omega)
 have hps:=hp.trans (aY (l:=l') (i:=i) (j:=i-1) (a:=a) (b:=e) ⟨by omega,by omega⟩ ⟨by omega,by omega⟩ (by omega))
 have hso1:br cf a (i-1) (swp l' i (i-1)):=br.keep (fun p q h1 h2 h3=>hso p q h1 h2 (by omega)) fun k hk=>by rw [d9 (by omega) (by omega),if_neg (by omega),if_neg (by omega)]
 simp (disch:=omega) [f0,f1,f2,f3,f9,f10,e1,ae,g1,g2,w1,w2,hst,bE,-ah,-aD,-ag]
 generalize swp l' i (i-1)=l1 at *
 generalize H'.set b (nr l1)=H1 at *
 clear g1 g2 w1 w2 hr hp hso hlt hlen
 refine cy (fun fr L H'=>∃l',(fr 0=.sl b 0 l0.length 4/\fr 1=.int .i64 a/\fr 2=.int .i64 e/\fr 3=.func (.func g) fs cs/\fr 9=.int .i64 (i:Nat)/\fr 10=.int .i64 (c:Nat))/\L=[]/\SqS b H0 l0 l' H'/\PermR a e l l'/\br cf a i l') (fun h2 => ?_) (fun h2 => ?_) ?_
 ·simp (disch:=omega) [f0,f1,f2,f3,f9,f10,ae]
  refine bK (n:=i-1) (fun m fr L H'=>∃l',(fr 0=.sl b 0 l0.length 4/\fr 1=.int .i64 a/\fr 2=.int .i64 e/\fr 3=.func (.func g) fs cs/\fr 9=.int .i64 (i:Nat)/\fr 10=.int .i64 (c:Nat)/\fr 11=.int .i64 (m:Nat))/\L=[]/\SqS b H0 l0 l' H'/\PermR a e l l'/\gJ cf a (i-1) m l'/\a<=m/\m<=i-1) ⟨l1,by simp [f0,f1,f2,f3,f9,f10];omega,rfl,hr4,hps,gJ.start hso1,by omega,Nat.le_refl _⟩ ?_
  clear f0 f1 f2 f3 f9 f10
  rintro m fr L H' ⟨l',⟨f0,f1,f2,f3,f9,f10,f11⟩,rfl,hr,hp,hI,ha,hm⟩
  have hlen:=hp.len
  simp [f0,f1,f2,f3,f9,f10,f11]
  refine aC (fun h1 => ?_) fun h1 => ?_
  ·have e2:((m:Int)-1).toNat=m-1:=by omega
   have g1:=fun L=>be hr.row (i:=m) (by omega) (L:=L)
   have g2:=fun L=>be hr.row (i:=m-1) (by omega) (L:=L)
   simp (disch:=omega) [f0,f1,f2,f3,f9,f10,f11,e2,ae,g1,g2,hst,bE,-ah,-ag]
   refine hc.at hr (i:=m) (j:=m-1) (by omega) (by omega) fun H2 x2 hr2 => ?_
   simp
   refine bM (fun hlt => ?_) fun hlt => ?_
   ·have hd:=hI.done ho ha hm (Or.inr hlt)
    rw [show i-1+1=i by omega] at hd
    simp [f0,f1,f2,f3,f9,f10]
    exact ⟨l',hr2,hp,hd⟩
   ·have ham:a<m:=by
     apply Classical.byContradiction
     intro hn2
     have:m=a:=by omega
     subst this
     exact hg.perm hp (Nat.le_refl _) (Nat.le_refl _) (by omega) (by omega) m (Nat.le_refl _) (by omega) hlt
    have g1:=fun L=>be hr2.row (i:=m) (by omega) (L:=L)
    have g2:=fun L=>be hr2.row (i:=m-1) (by omega) (L:=L)
    have w1:=fun L=>gw hr2 hlim (i:=m) (by omega) (L:=L) (gE l' (m-1))
    have w2:=fun L=>gh hr2 hlim (i:=m) (j:=m-1) (by omega) (L:=L)
    have hr5:=hr2.swap (i:=m) (j:=m-1) (by omega) (by omega)
    have hsw:=gJ.swap ho hI (by omega) (by omega) (by omega) hlt
    have hps5:=hp.trans (aY (l:=l') (i:=m) (j:=m-1) (a:=a) (b:=e) ⟨by omega,by omega⟩ ⟨by omega,by omega⟩ (by omega))
    have e3:(m:Int)-1=((m-1:Nat):Int):=by omega
    simp (disch:=omega) [f0,f1,f2,f3,f9,f10,f11,e2,ae,g1,g2,w1,w2,bE,-ah,-aD,-ag]
    exact ⟨m-1,by omega,by omega,swp l' m (m-1),hr5,hps5,hsw,by omega,by omega⟩
  ·have hd:=hI.done ho ha hm (Or.inl (by omega))
   rw [show i-1+1=i by omega] at hd
   simp [f0,f1,f2,f3,f9,f10]
   exact ⟨l',hr,hp,hd⟩
 ·simp [f0,f1,f2,f3,f9,f10]
  exact ⟨l1,hr4,hps,br.one (by simp at h2;omega)⟩
 clear f0 f1 f2 f3 f9 f10 hr4 hps hso1 l1 H1
 rintro fr L H' ⟨l',⟨f0,f1,f2,f3,f9,f10⟩,rfl,hr,hp,hso⟩
 simp (disch:=omega) [f0,f1,f2,f3,f9,f10,ae]
 refine cy (fun fr L H'=>∃l',(fr 0=.sl b 0 l0.length 4/\fr 1=.int .i64 a/\fr 2=.int .i64 e/\fr 3=.func (.func g) fs cs/\fr 9=.int .i64 (i:Nat)/\fr 10=.int .i64 (c:Nat))/\L=[]/\SqS b H0 l0 l' H'/\PermR a e l l'/\br cf a i l') (fun h2 => ?_) (fun h2 => ?_) ?_
 ·simp (disch:=omega) [f0,f1,f2,f3,f9,f10,ae]
  refine aO (e-(i+1)) (fun m fr L H'=>∃l',(fr 0=.sl b 0 l0.length 4/\fr 1=.int .i64 a/\fr 2=.int .i64 e/\fr 3=.func (.func g) fs cs/\fr 9=.int .i64 (i:Nat)/\fr 10=.int .i64 (c:Nat)/\fr 12=.int .i64 ((i+1+m:Nat):Int))/\L=[]/\SqS b H0 l0 l' H'/\PermR a e l l'/\br cf a i l') ⟨l',by simp [f0,f1,f2,f3,f9,f10],rfl,hr,hp,hso⟩ ?_
  clear f0 f1 f2 f3 f9 f10 hr hp hso l'
  rintro m hm fr L H' ⟨l',⟨f0,f1,f2,f3,f9,f10,f12⟩,rfl,hr,hp,hso⟩
  have hlen:=hp.len
  simp [f0,f1,f2,f3,f9,f10,f12]
  refine aC (fun h1 => ?_) fun h1 => ?_
  ·have e2:((i:Int)+1+(m:Int)).toNat=i+1+m:=by omega
   have e3:((i:Int)+1+(m:Int)-1).toNat=i+m:=by omega
   have g1:=fun L=>be hr.row (i:=i+1+m) (by omega) (L:=L)
   have g2:=fun L=>be hr.row (i:=i+m) (by omega) (L:=L)
   simp (disch:=omega) [f0,f1,f2,f3,f9,f10,f12,e2,e3,ae,g1,g2,hst,bE,-ah,-ag]
   refine hc.at hr (i:=i+1+m) (j:=i+m) (by omega) (by omega) fun H2 x2 hr2 => ?_
   simp
   refine bM (fun hlt => ?_) fun hlt => ?_
   ·simp [f0,f1,f2,f3,f9,f10]
    exact ⟨l',hr2,hp,hso⟩
   ·have g1:=fun L=>be hr2.row (i:=i+1+m) (by omega) (L:=L)
    have g2:=fun L=>be hr2.row (i:=i+m) (by omega) (L:=L)
    have w1:=fun L=>gw hr2 hlim (i:=i+1+m) (by omega) (L:=L) (gE l' (i+m))
    have w2:=fun L=>gh hr2 hlim (i:=i+1+m) (j:=i+m) (by omega) (L:=L)
    have hr5:=hr2.swap (i:=i+1+m) (j:=i+m) (by omega) (by omega)
    have hps5:=hp.trans (aY (l:=l') (i:=i+1+m) (j:=i+m) (a:=a) (b:=e) ⟨by omega,by omega⟩ ⟨by omega,by omega⟩ (by omega))
    have hso5:br cf a i (swp l' (i+1+m) (i+m)):=hso.keep fun k hk=>by rw [d9 (by omega) (by omega),if_neg (by omega),if_neg (by omega)]
    simp (disch:=omega) [f0,f1,f2,f3,f9,f10,f12,e2,e3,ae,g1,g2,w1,w2,bE,-ah,-aD,-ag]
    exact ⟨by omega,by omega,_,hr5,hps5,hso5⟩
  ·simp [f0,f1,f2,f3,f9,f10]
   exact ⟨l',hr,hp,hso⟩
 ·simp [f0,f1,f2,f3,f9,f10]
  exact ⟨l',hr,hp,hso⟩
 clear f0 f1 f2 f3 f9 f10 hr hp hso l'
 rintro fr L H' ⟨l',⟨f0,f1,f2,f3,f9,f10⟩,rfl,hr,hp,hso⟩
 simp (disch:=omega) [f0,f1,f2,f3,f9,f10,ae]
 exact ⟨by omega,l',i,by omega,hr,hp,by omega,hso⟩
theorem Qs {x:Nat}(hx:0<x/\x<256)(hlim:lim<=H.length)(hK:∀m:Nat,x<m->m<=2*x->K (.int .u64 m) H):aF tbl lim 114 [.int .i64 x] H K:=Mj hx hlim hK
theorem NQ {x:Nat}(hx:x<256)(hlim:lim<=H.length)(hK:∀m:Nat,m<=100->K (.int .i64 m) H):aF tbl lim 72 [.int .u64 x] H K :=
 AZ hx (hK _ (by have:=nq x;omega))
theorem MN {s:Nat}{w:Int}(h:H[s]? = some (.row [.int .u64 w] true))(hl:lim<=s)(hK:∀z,K (.int .u64 z) (H.set s (.row [.int .u64 z] true))):aF tbl lim 115 [.ptr s 0] H K:=by
 refine ao tbl_at115 rfl ?_
 have hb:=(List.getElem?_eq_some_iff.1 h).1
 have ld:=fun L=>Dt h (L:=L)
 have st:=fun L z=>tq (lim:=lim) (r:=.row [] true) h hl (L:=L) (z:=z)
 have row:∀z,(H.set s (.row [.int .u64 z] true))[s]? = some (.row [.int .u64 z] true):=fun z=>by simp [hb]
 have ld2:=fun z L=>Dt (row z) (L:=L)
 have st2:∀y z L,aD lim L (H.set s (.row [.int .u64 y] true)) (.ptr s 0) (.int .u64 z) 1=some (L,H.set s (.row [.int .u64 z] true)):=fun y z L=>by
  rw [tq (r:=.row [] true) (row y) hl,List.set_set]
 simp [vf115,ld,st,ld2,st2,PE,Lc,PL,xg,-aD,-ag]
 exact hK _
end
section
variable {lim:Nat}{H H0:Hp}{K:V->Hp->Prop}{b g:Nat}{l l0:List EQ}{cf:EQ->EQ->Int}{fs cs:List V}
theorem J3 (hs:SqS b H0 l0 l H)(hlim:lim<=b){a e:Nat}{f:V}(hf:stor f=true)(hae:a+8<=e/\e<=l0.length)(hl:l0.length<256)
 (hK:∀H' l',SqS b H0 l0 l' H'->PermR a e l l'->K (.tup []) H'):aF tbl lim 96 [.sl b 0 l0.length 4,.int .i64 a,.int .i64 e,f] H K:=by
 refine ao tbl_at96 rfl ?_
 have hn:=hs.n
 have hb:=hs.blt
 have hle:=hs.len
 obtain ⟨d,rfl⟩:∃d,e=a+d:=⟨e-a,by omega⟩
 have e0:(a:Int)+(d:Int)-(a:Int)=(d:Int):=by omega
 have e8:((8:Int)<=(d:Int))=True:=eq_true (by omega)
 have eq4:(d:Int).tdiv 4=((d / 4:Nat):Int):=iQ _ 4
 have hd4:2*(d / 4)<=d / 2/\2<=d / 4/\4*(d / 4)<=d:=by omega
 have wu:∀k:Nat,k<256->IntKind.wrap .u64 (k:Int)=k:=fun k hk=>iI (by omega)
 have stn:∀L,aD lim L (H++[Blk.row [V.int .u64 0] true]) (.ptr H.length 0) (.int .u64 d) 1=some (L,H++[Blk.row [V.int .u64 d] true]):=fun L=>by
  rw [tq (r:=.row [] true) (w:=0) (by simp) (by omega)];simp
 simp (disch:=omega) [vf96,ae,e0,e8,eq4,wu,stn,-aD]
 have row1:(H++[Blk.row [V.int .u64 d] true])[H.length]? = some (.row [.int .u64 d] true):=by simp
 have hs1:SqS b H0 l0 l (H++[Blk.row [V.int .u64 d] true]):=hs.grow HX.push
 have hl1:H.length<(H++[Blk.row [V.int .u64 d] true]).length:=by simp
 generalize H++[Blk.row [V.int .u64 d] true]=H1 at *
 refine Qs (x:=d) (by omega) (by omega) fun m hm1 hm2 => ?_
 simp (disch:=omega) [ae,e0,e8,eq4]
 refine aO 3 (fun i fr L H'=>∃l' w,(fr 0=.sl b 0 l0.length 4/\fr 1=.int .i64 a/\fr 8=.int .i64 d/\fr 9=.ptr H.length 0/\fr 10=.int .u64 m/\fr 11=.int .i64 ((a+(d / 4*2-1)+i:Nat):Int))/\L=[]/\SqS b H0 l0 l' H'/\H'[H.length]? = some (.row [.int .u64 w] true)/\PermR a (a+d) l l') ⟨l,d,by simp;omega,rfl,hs1,row1,PermR.refl⟩ ?_
 rintro i hi fr L H' ⟨l',w,⟨f0,f1,f8,f9,f10,f11⟩,rfl,hr,hw,hp⟩
 have hlen:=hp.len
 simp (disch:=omega) [f0,f1,f8,f9,f10,f11,eq4,ae]
 refine aC (fun ht => ?_) fun ht => ?_
 ·have hi2:i<3:=by omega
  simp [f0,f1,f8,f9,f10,f11]
  refine MN hw (by omega) fun z => ?_
  have hr2:=hr.aside (s:=H.length) (r:=.row [.int .u64 z] true) hle
  have hw2:(H'.set H.length (.row [.int .u64 z] true))[H.length]? = some (.row [.int .u64 z] true):=by
   rw [List.getElem?_set_self (List.getElem?_eq_some_iff.1 hw).1]
  generalize H'.set H.length (.row [.int .u64 z] true)=H2 at *
  obtain ⟨o,ho,hand⟩:=L3 (x:=z) (m:=m) (by omega)
  have wm:IntKind.wrap .u64 ((m:Int)-1)=(m:Int)-1:=iI (by omega)
  simp (disch:=omega) [f0,f1,f8,f9,f10,f11,wm,hand,ae]
  refine cy (fun fr L H'=>∃o:Nat,(fr 0=.sl b 0 l0.length 4/\fr 1=.int .i64 a/\fr 8=.int .i64 d/\fr 9=.ptr H.length 0/\fr 10=.int .u64 m/\fr 11=.int .i64 ((a+(d / 4*2-1)+i:Nat):Int)/\fr 12=.int .i64 (o:Nat))/\L=[]/\H'=H2/\o<d) (fun h => ?_) (fun h => ?_) ?_
  ·simp at h
   simp (disch:=omega) [f0,f1,f8,f9,f10,f11,ae]
   exact ⟨o-d,by omega,by omega⟩
  ·simp at h
   simp [f0,f1,f8,f9,f10,f11]
   exact ⟨o,rfl,by omega⟩
  clear f0 f1 f8 f9 f10 f11
  rintro fr L H3 ⟨q,⟨f0,f1,f8,f9,f10,f11,f12⟩,rfl,rfl,hq⟩
  have e1:((a:Int)+((d / 4*2-1:Nat):Int)+(i:Int)).toNat=a+(d / 4*2-1)+i:=by omega
  have e2:((a:Int)+(q:Int)).toNat=a+q:=by omega
  have g1:=fun L=>be hr2.row (i:=a+(d / 4*2-1)+i) (by omega) (L:=L)
  have g2:=fun L=>be hr2.row (i:=a+q) (by omega) (L:=L)
  have w1:=fun L=>gw hr2 hlim (i:=a+(d / 4*2-1)+i) (by omega) (L:=L) (gE l' (a+q))
  have w2:=fun L=>gh hr2 hlim (i:=a+(d / 4*2-1)+i) (j:=a+q) (by omega) (L:=L)
  have hr5:=hr2.swap (i:=a+(d / 4*2-1)+i) (j:=a+q) (by omega) (by omega)
  have hps5:=hp.trans (aY (l:=l') (i:=a+(d / 4*2-1)+i) (j:=a+q) (a:=a) (b:=a+d) ⟨by omega,by omega⟩ ⟨by omega,by omega⟩ (by omega))
  have hw5:(H3.set b (nr (swp l' (a+(d / 4*2-1)+i) (a+q))))[H.length]? = some (.row [.int .u64 z] true):=by
   rw [List.getElem?_set_ne (by omega)];exact hw2
  simp (disch:=omega) [f0,f1,f8,f9,f10,f11,f12,e1,e2,ae,g1,g2,w1,w2,bE,-ah,-aD,-ag]
  exact ⟨by omega,by omega,_,hr5,⟨z,hw2⟩,hps5⟩
 ·simp
  exact hK _ _ hr hp
theorem EY (hs:SqS b H0 l0 l H)(hlim:lim<=b)(hst:bg fs=true/\bg cs=true/\g≠3999999)(hc:lJ b g fs cs H0 l0 cf){a e:Nat}(hae:a+8<=e/\e<=l0.length)(hl:l0.length<=100000)
 (hK:∀H' (v h:Nat),SqS b H0 l0 l H'->(a<=v/\v<e)->K (.tup [.int .i64 (v:Nat),.int .i64 (h:Nat)]) H'):aF tbl lim 97 [.sl b 0 l0.length 4,.int .i64 a,.int .i64 e,.func (.func g) fs cs] H K:=by
 refine ao tbl_at97 rfl ?_
 have hn:=hs.n
 have hb:=hs.blt
 have hle:=hs.len
 obtain ⟨d,rfl⟩:∃d,e=a+d:=⟨e-a,by omega⟩
 have e0:(a:Int)+(d:Int)-(a:Int)=(d:Int):=by omega
 have e8:((8:Int)<=(d:Int))=True:=eq_true (by omega)
 obtain ⟨q,eq4,hd4⟩:∃q:Nat,(d:Int).tdiv 4=(q:Int)/\4*q<=d/\d<=4*q+3:=⟨d / 4,iQ _ 4,by omega,by omega⟩
 simp (disch:=omega) [vf97,ae,e0,e8,eq4]
 have row1:(H++[Blk.row [V.int .i64 0] true])[H.length]? = some (.row [.int .i64 0] true):=by simp
 have hs1:SqS b H0 l0 l (H++[Blk.row [V.int .i64 0] true]):=hs.grow HX.push
 generalize H++[Blk.row [V.int .i64 0] true]=H1 at *
 generalize H.length=sw at *
 refine cy (fun fr L H'=>∃i j k w,(fr 0=.sl b 0 l0.length 4/\fr 3=.func (.func g) fs cs/\fr 11=.ptr sw 0/\fr 12=.int .i64 (i:Nat)/\fr 13=.int .i64 (j:Nat)/\fr 14=.int .i64 (k:Nat))/\L=[]/\SqS b H0 l0 l H'/\H'[sw]? = some (.row [.int .i64 w] true)/\(a<=i/\i<a+d)/\(a<=j/\j<a+d)/\a<=k/\k<a+d) (fun h => ?_) (fun h => ?_) ?_
 ·simp at h
  have c1:(a:Int)+(q:Int)=((a+q:Nat):Int):=by omega
  have c2:(a:Int)+(q:Int)*2=((a+q*2:Nat):Int):=by omega
  have c3:(a:Int)+(q:Int)*3=((a+q*3:Nat):Int):=by omega
  simp only [c1,c2,c3]
  generalize hi:a+q=i at *
  generalize hj:a+q*2=j at *
  generalize hk:a+q*3=k at *
  simp [hst]
  refine jb hs1 hlim hst hc row1 hle (x:=i) (by omega) hl fun H2 w2 r2 hs2 row2 h2 => ?_
  simp [hst]
  refine jb hs2 hlim hst hc row2 hle (x:=j) (by omega) hl fun H3 w3 r3 hs3 row3 h3 => ?_
  simp [hst]
  refine jb hs3 hlim hst hc row3 hle (x:=k) (by omega) hl fun H4 w4 r4 hs4 row4 h4 => ?_
  simp
  exact ⟨r2,r3,r4,by omega,hs4,⟨w4,row4⟩,by omega,by omega,by omega,by omega⟩
 ·simp
  exact ⟨a+q,a+q*2,a+q*3,by omega,hs1,⟨0,row1⟩,by omega,by omega,by omega,by omega⟩
 rintro fr L H2 ⟨i,j,k,w,⟨f0,f3,f11,f12,f13,f14⟩,rfl,hs2,row2,hi,hj,hk⟩
 simp [f0,f3,f11,f12,f13,f14,hst]
 refine tj hs2 hlim hst hc row2 hle (x:=i) (y:=j) (z:=k) (by omega) (by omega) (by omega) fun H3 w3 r hs3 row3 h3 => ?_
 have ld:=fun L=>D0 row3 (L:=L)
 simp [f0,f3,f11,f12,f13,f14,ld,-ag]
 refine aC (fun h => ?_) fun h => ?_
 ·simp
  exact hK _ r 1 hs3 (by omega)
 simp
 refine aC (fun h => ?_) fun h => ?_
 ·simp
  exact hK _ r 2 hs3 (by omega)
 ·simp
  exact hK _ r 0 hs3 (by omega)
theorem QV (hc:lJ b g fs cs H0 l0 cf) (ho:Ordr cf) (hst:bg fs=true∧bg cs=true∧g≠3999999) (hlim:lim≤b) (hl:l0.length<256):∀(n:Nat) {H:Hp} {l:List EQ} {a e:Nat} {lm:Nat} {K:V→Hp→Prop},e-a≤n→SqS b H0 l0 l H→(a≤e∧e≤l0.length)→lm≤1000→GdR cf a e l →
 (∀H' l',SqS b H0 l0 l' H'->PermR a e l l'->br cf a e l'->K (.tup []) H')->aF tbl lim 73 [.sl b 0 l0.length 4,.int .i64 a,.int .i64 e,.int .i64 lm,.func (.func g) fs cs] H K:=by
 intro n
 induction n using Nat.strongRecOn with
 | ind n ih =>
 intro H l a e lm K hn hs hae hlm hg hK
 have hb:=hs.blt
 refine ao tbl_at73 rfl ?_
 have hln:=hs.n
 simp [vf73]
 refine bK (n:=e-a) (fun m fr L H'=>∃l' a' e' lm wb wp,(fr 0=.sl b 0 l0.length 4/\fr 1=.int .i64 (a':Nat)/\fr 2=.int .i64 (e':Nat)/\fr 3=.int .i64 (lm:Nat)/\fr 4=.func (.func g) fs cs/\fr 10=.bool wb/\fr 11=.bool wp)/\L=[]/\SqS b H0 l0 l' H'/\PermR a e l l'/\OutR cf a e a' e' l'/\GdR cf a' e' l'/\lm<=1000/\m=e'-a'/\m<=e-a) ⟨l,a,e,lm,true,true,by simp,rfl,hs,PermR.refl,OutR.start hae.1,hg,hlm,rfl,Nat.le_refl _⟩ ?_
 clear hs hg hlm
 rintro m fr L H1 ⟨l1,x,y,lm1,wb,wp,⟨f0,f1,f2,f3,f4,f10,f11⟩,rfl,hs,hp,hO,hg,hlm,hm,hm2⟩
 have hlen:=hp.len
 have hrg:=hO.rng
 have e0:(y:Int)-(x:Int)=((y-x:Nat):Int):=by omega
 simp (disch:=omega) [f0,f1,f2,f3,f4,f10,f11,ae,hst]
 refine aC (fun h12 => ?_) fun h12 => ?_
 ·simp [f0,f1,f2,f3,f4,f10,f11,hst]
  refine K3 hs hlim hst hc ho (a:=x) (e:=y) (by omega) (by omega) fun H2 l2 hs2 hp2 hso2 => ?_
  simp
  exact hK _ _ hs2 (hp.trans (hp2.wide hrg.1 hrg.2.2)) ((hO.perm hp2 (by omega)).sort hso2)
 simp [f0,f1,f2,f3,f4,f10,f11,hst]
 by_cases hz:lm1=0
 ·subst hz
  simp [f0,f1,f2,f3,f4,f10,f11,hst]
  refine Od hs hlim hst hc ho (a:=x) (e:=y) (by omega) (by omega) fun H2 l2 hs2 hp2 hso2 => ?_
  simp
  exact hK _ _ hs2 (hp.trans (hp2.wide hrg.1 hrg.2.2)) ((hO.perm hp2 (by omega)).sort hso2)
 simp [f0,f1,f2,f3,f4,f10,f11,hst,hz]
 refine cy (fun fr L H'=>∃l' lm,(fr 0=.sl b 0 l0.length 4/\fr 1=.int .i64 x/\fr 2=.int .i64 y/\fr 3=.int .i64 (lm:Nat)/\fr 4=.func (.func g) fs cs/\fr 10=.bool wb/\fr 11=.bool wp/\fr 12=.int .i64 ((y:Int)-(x:Int)))/\L=[]/\SqS b H0 l0 l' H'/\PermR a e l l'/\OutR cf a e x y l'/\GdR cf x y l'/\lm<=1000) (fun h => ?_) (fun h => ?_) ?_
 ·simp [f0,f1,f2,f3,f4,f10,f11,hst]
  refine J3 hs hlim (a:=x) (e:=y) (by simp [stor,hst]) (by omega) (by omega) fun H2 l2 hs2 hp2 => ?_
  have e1:(lm1:Int)-1=((lm1-1:Nat):Int):=by omega
  simp (disch:=omega) [f0,f1,f2,f3,f4,f10,f11,ae,e1]
  exact ⟨l2,lm1-1,by omega,hs2,hp.trans (hp2.wide hrg.1 hrg.2.2),hO.perm hp2 (by omega),hg.perm hp2 (Nat.le_refl _) (Nat.le_refl _) (by omega),by omega⟩
 ·simp [f0,f1,f2,f3,f4,f10,f11]
  exact ⟨l1,lm1,by omega,hs,hp,hO,hg,by omega⟩
 clear f0 f1 f2 f3 f4 f10 f11 hs hp hO hg hlen hlm hz
 rintro fr L H2 ⟨l2,lm2,⟨f0,f1,f2,f3,f4,f10,f11,f12⟩,rfl,hs,hp,hO,hg,hlm⟩
 have hlen:=hp.len
 simp [f0,f1,f2,f3,f4,f10,f11,f12,hst]
 refine EY hs hlim hst hc (a:=x) (e:=y) (by omega) (by omega) fun H3 v hint hs3 hv => ?_
 simp [f0,f1,f2,f3,f4,f10,f11,f12,hst]
 refine cy (fun fr L H'=>∃l' v hint,(fr 0=.sl b 0 l0.length 4/\fr 1=.int .i64 x/\fr 2=.int .i64 y/\fr 3=.int .i64 (lm2:Nat)/\fr 4=.func (.func g) fs cs/\fr 10=.bool wb/\fr 11=.bool wp/\fr 12=.int .i64 ((y:Int)-(x:Int))/\fr 13=.int .i64 (v:Nat)/\fr 14=.int .i64 (hint:Nat))/\L=[]/\SqS b H0 l0 l' H'/\PermR a e l l'/\OutR cf a e x y l'/\GdR cf x y l'/\x<=v/\v<y) (fun h => ?_) (fun h => ?_) ?_
 ·simp [f0,f1,f2,f3,f4,f10,f11,hst]
  refine A6 hs3 hlim (a:=x) (e:=y) (by omega) (by omega) fun H4 l4 hs4 hp4 => ?_
  simp (disch:=omega) [f0,f1,f2,f3,f4,f10,f11,f12,ae]
  exact ⟨l4,(y-1)-(v-x),⟨by omega,1,rfl⟩,hs4,hp.trans (hp4.wide hrg.1 hrg.2.2),hO.perm hp4 (by omega),hg.perm hp4 (Nat.le_refl _) (Nat.le_refl _) (by omega),by omega,by omega⟩
 ·simp [f0,f1,f2,f3,f4,f10,f11,f12]
  exact ⟨l2,v,⟨rfl,hint,rfl⟩,hs3,hp,hO,hg,by omega,by omega⟩
 clear f0 f1 f2 f3 f4 f10 f11 f12 hs hs3 hp hO hg hlen hv
 rintro fr L H4 ⟨l4,v,hint,⟨f0,f1,f2,f3,f4,f10,f11,f12,f13,f14⟩,rfl,hs,hp,hO,hg,hv⟩
 have hlen:=hp.len
 rw [km]
 refine kE (fun fr L H'=>∃l' wb wp,(fr 0=.sl b 0 l0.length 4/\fr 1=.int .i64 x/\fr 2=.int .i64 y/\fr 3=.int .i64 (lm2:Nat)/\fr 4=.func (.func g) fs cs/\fr 12=.int .i64 ((y:Int)-(x:Int))/\fr 13=.int .i64 (v:Nat)/\fr 10=.bool wb/\fr 11=.bool wp)/\L=[]/\SqS b H0 l0 l' H'/\PermR a e l l'/\OutR cf a e x y l'/\GdR cf x y l') ?_ ?_
 ·have pis:∀(fr:Fr),fr 0=.sl b 0 l0.length 4->True:=fun _ _=>trivial
  by_cases hh:wb=true/\wp=true/\hint=1
  ·obtain ⟨rfl,rfl,rfl⟩:=hh
   simp [f0,f1,f2,f3,f4,f10,f11,f12,f13,f14,hst]
   refine QE hs hlim hst hc ho (a:=x) (e:=y) (by omega) (by omega) hg fun H5 l5 ok hs5 hp5 hso5 => ?_
   cases ok with
   | true =>
     simp
     exact hK _ _ hs5 (hp.trans (hp5.wide hrg.1 hrg.2.2)) ((hO.perm hp5 (by omega)).sort (hso5 rfl))
   | false =>
     simp [f0,f1,f2,f3,f4,f10,f11,f12,f13,f14]
     exact ⟨l5,hs5,hp.trans (hp5.wide hrg.1 hrg.2.2),hO.perm hp5 (by omega),hg.perm hp5 (Nat.le_refl _) (Nat.le_refl _) (by omega)⟩
  ·have fin:∃l',SqS b H0 l0 l' H4/\PermR a e l l'/\OutR cf a e x y l'/\GdR cf x y l':=⟨l4,hs,hp,hO,hg⟩
   cases wb with
   | false =>
     simp [f0,f1,f2,f3,f4,f10,f11,f12,f13,f14]
     exact fin
   | true =>
     cases wp with
     | false =>
       simp [f0,f1,f2,f3,f4,f10,f11,f12,f13,f14]
       exact fin
     | true =>
       have h1:((hint:Int)=1)=False:=eq_false (by simp at hh;omega)
       simp [f0,f1,f2,f3,f4,f10,f11,f12,f13,f14,h1]
       exact fin
 clear f0 f1 f2 f3 f4 f10 f11 f12 f13 f14 hs hp hO hg hlen
 rintro fr L H5 ⟨l5,wb,wp,⟨f0,f1,f2,f3,f4,f12,f13,f10,f11⟩,rfl,hs,hp,hO,hg⟩
 have hlen:=hp.len
 refine kE (fun fr L H'=>∃l' wb wp,(fr 0=.sl b 0 l0.length 4/\fr 1=.int .i64 x/\fr 2=.int .i64 y/\fr 3=.int .i64 (lm2:Nat)/\fr 4=.func (.func g) fs cs/\fr 12=.int .i64 ((y:Int)-(x:Int))/\fr 13=.int .i64 (v:Nat)/\fr 10=.bool wb/\fr 11=.bool wp)/\L=[]/\SqS b H0 l0 l' H'/\PermR a e l l'/\OutR cf a e x y l'/\GdR cf x y l') ?_ ?_
 ·by_cases hx0:x=0
  ·have h0:(0<x)=False:=eq_false (by omega)
   simp [f0,f1,f2,f3,f4,f10,f11,f12,f13,h0]
   exact ⟨l5,hs,hp,hO,hg⟩
  ·have h0:(0<x)=True:=eq_true (by omega)
   have e1:((x:Int)-1).toNat=x-1:=by omega
   have g1:=fun L=>be hs.row (i:=x-1) (by omega) (L:=L)
   have g2:=fun L=>be hs.row (i:=v) (by omega) (L:=L)
   simp (disch:=omega) [f0,f1,f2,f3,f4,f10,f11,f12,f13,h0,e1,ae,g1,g2,hst,bE,-ah,-ag]
   refine hc.at hs (i:=x-1) (j:=v) (by omega) (by omega) fun H6 x6 hs6 => ?_
   simp
   refine bM (fun hlt => ?_) fun hlt => ?_
   ·simp [f0,f1,f2,f3,f4,f10,f11,f12,f13,hst]
    refine GX hs6 hlim hst hc ho (a:=x) (e:=y) (v:=v) (by omega) (by omega) (hg.least ho (by omega) hlt) fun H7 l7 q hs7 hp7 hq heq => ?_
    have hO7:=(hO.perm hp7 (by omega)).equal (m:=q) (by omega) heq
    simp [f0,f1,f2,f3,f4,f10,f11,f12,f13]
    exact ⟨y-q,by omega,l7,q,y,lm2,by omega,hs7,hp.trans (hp7.wide hrg.1 hrg.2.2),hO7,hO7.guard (by omega),by omega,rfl,by omega⟩
   ·simp [f0,f1,f2,f3,f4,f10,f11,f12,f13]
    exact ⟨l5,hs6,hp,hO,hg⟩
 clear f0 f1 f2 f3 f4 f10 f11 f12 f13 hs hp hO hg hlen
 rintro fr L H6 ⟨l6,wb,wp,⟨f0,f1,f2,f3,f4,f12,f13,f10,f11⟩,rfl,hs,hp,hO,hg⟩
 have hlen:=hp.len
 simp [f0,f1,f2,f3,f4,f10,f11,f12,f13,hst]
 refine Pe hs hlim hst hc ho (a:=x) (e:=y) (v:=v) (by omega) (by omega) fun H7 l7 q ok hs7 hp7 hq => ?_
 have hqr:=hq.rng
 have hO7:=hO.perm hp7 (by omega)
 have hp77:=hp.trans (hp7.wide hrg.1 hrg.2.2)
 have hl7:=hp77.len
 simp (disch:=omega) [f0,f1,f2,f3,f4,f10,f11,f12,f13,hst,ae]
 refine aC (fun hlr => ?_) fun hlr => ?_
 ·simp [f0,f1,f2,f3,f4,f10,f11,f12,f13,hst]
  refine ih (q-x) (by omega) (Nat.le_refl _) hs7 (by omega) hlm ((hg.perm hp7 (Nat.le_refl _) (Nat.le_refl _) (by omega)).less (by omega)) fun H8 l8 hs8 hp8 hso8 => ?_
  have hO8:=hO7.left ho hq hp8 hso8 (by omega)
  simp (disch:=omega) [f0,f1,f2,f3,f4,f10,f11,f12,f13,hst,ae]
  exact ⟨y-(q+1),by omega,l8,q+1,y,lm2,by omega,hs8,hp77.trans (hp8.wide (by omega) (by omega)),hO8,hO8.guard (by omega),by omega,rfl,by omega⟩
 ·have e1:(q:Int)+1=((q+1:Nat):Int):=by omega
  simp (disch:=omega) [f0,f1,f2,f3,f4,f10,f11,f12,f13,hst,ae]
  rw [e1]
  refine ih (y-(q+1)) (by omega) (Nat.le_refl _) hs7 (by omega) hlm (fun _ k h1 h2=>hq.hi k (by omega) h2) fun H8 l8 hs8 hp8 hso8 => ?_
  have hO8:=hO7.right ho hq hp8 hso8 (by omega)
  simp (disch:=omega) [f0,f1,f2,f3,f4,f10,f11,f12,f13,hst,ae]
  exact ⟨q-x,by omega,l8,x,q,lm2,by omega,hs8,hp77.trans (hp8.wide (by omega) (by omega)),hO8,((hg.perm hp7 (Nat.le_refl _) (Nat.le_refl _) (by omega)).perm hp8 (by omega) (Nat.le_refl _) (by omega)).less (by omega),by omega,rfl,by omega⟩
theorem Ox (hb:H[b]? = some (nr l))(hlim:lim<=b)(hst:bg fs=true/\bg cs=true/\g≠3999999)(hc:lJ b g fs cs H l cf)(ho:Ordr cf)(hl:l.length<256)
 (hK:∀H' l',SqS b H l l' H'->br cf 0 l.length l'->K (.tup []) H'):aF tbl lim 58 [.sl b 0 l.length 4,.func (.func g) fs cs] H K:=by
 refine ao tbl_at58 rfl ?_
 have hbl:=(List.getElem?_eq_some_iff.1 hb).1
 have wu:IntKind.wrap .u64 (l.length:Int)=(l.length:Int):=iI (by omega)
 simp [vf58,wu,hst]
 refine NQ (x:=l.length) hl (by omega) fun m hm => ?_
 simp [hst]
 refine QV (a:=0) (e:=l.length) hc ho hst hlim hl l.length (by omega) (SqS.start hb) (by omega) (by omega) (fun h=>by omega) fun H' l' hs hp hso => ?_
 simp
 exact hK _ _ hs hso
end
section
variable {c:Cp}{s:Nat}
theorem pR (hok:CapOk c) (hs:s<nsN c.P) :
 (∀i,i<=rnN (nsN c.P) (nxN c.P) (lsN c) s->wlk (fi c.P (lsN c)) s i=itN (nuP c) i s) /\
 (∀i,i<rnN (nsN c.P) (nxN c.P) (lsN c) s->((fi c.P (lsN c)).getD (wlk (fi c.P (lsN c)) s i) default).p≠-1/\wlk (fi c.P (lsN c)) s (i+1)≠s) /\
 (((fi c.P (lsN c)).getD (wlk (fi c.P (lsN c)) s (rnN (nsN c.P) (nxN c.P) (lsN c) s)) default).p = -1\/wlk (fi c.P (lsN c)) s (rnN (nsN c.P) (nxN c.P) (lsN c) s+1)=s):=by
 have hnu:=hok.nu
 obtain ⟨h1,h2,h3⟩:=gM (L:=lsN c) hnu hs
 have hw:∀i,i<=rnN (nsN c.P) (nxN c.P) (lsN c) s->wlk (fi c.P (lsN c)) s i=itN (nuP c) i s:=fun i hi=>Bf hok.sm_ok hs fun j hj=>(h3 j (by omega)).1
 refine ⟨hw,fun i hi => ?_,?_⟩
 ·rw [hw i (by omega),hw (i+1) (by omega)]
  refine ⟨fun e=>(h3 i hi).1 ((mm (hnu.it hs i)).1 e),(h3 i hi).2⟩
 ·rw [hw _ (Nat.le_refl _)]
  by_cases hf:alf (lsN c) (itN (nuP c) (rnN (nsN c.P) (nxN c.P) (lsN c) s) s)=itN (nuP c) (rnN (nsN c.P) (nxN c.P) (lsN c) s) s
  ·exact Or.inl ((mm (hnu.it hs _)).2 hf)
  ·right
   have h2:itN (nuP c) (rnN (nsN c.P) (nxN c.P) (lsN c) s+1) s=s:=by
    rcases h2 with h2 | h2
    ·exact absurd h2 hf
    ·exact h2
   have e:=Bf hok.sm_ok hs (k:=rnN (nsN c.P) (nxN c.P) (lsN c) s+1) fun j hj=>by
    by_cases e:j=rnN (nsN c.P) (nxN c.P) (lsN c) s
    ·subst e;exact hf
    ·exact (h3 j (by omega)).1
   rw [e];exact h2
def wkL (c:Cp)(s i:Nat):List Int:=(List.range i).map fun j=>((itN (nuP c) j s:Nat):Int)
def wkS (c:Cp)(s i:Nat):Int:=((List.range i).map fun j=>anN c.P (itN (nuP c) j s)).sum
theorem zO {i:Nat}:wkL c s (i+1)=wkL c s i++[((itN (nuP c) i s:Nat):Int)]:=by simp [wkL,List.range_succ]
theorem DM {i:Nat}:(wkL c s i).length=i:=by simp [wkL]
theorem xW {i:Nat}:wkS c s (i+1)=wkS c s i+anN c.P (itN (nuP c) i s):=ia
theorem Il (hok:CapOk c){k:Nat}(hk:k<nsN c.P):1<=anN c.P k/\anN c.P k<=359:=by
 obtain ⟨q,j,h1,h2,rfl⟩:=cH hk
 rw [Iq h1 h2]
 exact ((co (hok.pc q h1)).2.2.1 j h2).2
theorem Bl (hok:CapOk c)(hs:s<nsN c.P):∀i,0<=wkS c s i/\wkS c s i<=359*i
 | 0=>by simp [wkS]
 | i+1=>by
   have h1:=Bl hok hs i
   have h2:=Il hok (hok.nu.it hs i)
   rw [xW];omega
theorem HY (hok:CapOk c)(hs:s<nsN c.P)(hcl:iW (nsN c.P) (nxN c.P) (lsN c) s\/dX (nsN c.P) (nxN c.P) (lsN c) s):wkS c s (rnN (nsN c.P) (nxN c.P) (lsN c) s+1)=((fK (PtR c) (nsN c.P) s).map (anN c.P)).sum:=by
 have:=mL ((tK (L:=lsN c) hok.nu hs hcl).map (anN c.P))
 rw [←PtR,qu,List.map_map] at this
 exact this
def jV (l:List Nat):List Int:=l.map fun k:Nat=>(k:Int)
theorem IB {l:List Nat}:(jV l).length=l.length:=by simp [jV]
theorem Gd (hok:CapOk c)(hs:s<nsN c.P)(hcl:iW (nsN c.P) (nxN c.P) (lsN c) s\/dX (nsN c.P) (nxN c.P) (lsN c) s){l:List Int}(hp:l.Perm (wkL c s (rnN (nsN c.P) (nxN c.P) (lsN c) s+1)))(ha:l.Pairwise fun a b=>a<=b):l=jV (fK (PtR c) (nsN c.P) s):=by
 have h1:(wkL c s (rnN (nsN c.P) (nxN c.P) (lsN c) s+1)).Perm (jV (fK (PtR c) (nsN c.P) s)):=by
  have:=(tK (L:=lsN c) hok.nu hs hcl).map fun k:Nat=>(k:Int)
  rw [←PtR,qu,List.map_map] at this
  exact this
 have h2:=hp.trans h1
 have ha2:(jV (fK (PtR c) (nsN c.P) s)).Pairwise fun a b=>a<b:=by
  rw [jV,List.pairwise_map]
  exact ym.imp fun h=>by omega
 have hnd:l.Nodup:=by
  rw [h2.nodup_iff]
  exact ha2.imp fun h e=>by omega
 refine rz (key:=fun x=>x) h2 ?_ ha2
 have:l.Pairwise fun a b=>a<=b/\a≠b:=by
  rw [List.pairwise_and_iff];exact ⟨ha,hnd⟩
 exact this.imp fun h=>by omega
end
def vu (m:Nat)(H H':Hp):Prop:=H.length<=H'.length/\∀b,b<H.length->b≠m->H'[b]? = H[b]?
structure PtsS (n0:Nat)(H0:Hp)(lv:V)(M:List (Int×Bool))(u:V)(pts:List Pnt)(cl:List (List Int))(H:Hp):Prop where
 hx:HX H0 H
 hn:H0.length=n0
 b0:H[n0]? = some (.row [lv] true)
 b1:H[n0+1]? = some (.map (mE kI .bool M))
 b2:H[n0+2]? = some (.row [.mp (n0+1)] true)
 b3:H[n0+3]? = some (.row [u] true)
 ou:OwnT (n0+4) Gj H u pts
 len:cl.length=pts.length
 oc:∀i,i<pts.length->OwnV (n0+4) H (pts.getD i default).v (cl.getD i [])
 ap:∀i,i<pts.length->∀b o z y o' z' y',u=.sl b o z y->(pts.getD i default).v=.sl b o' z' y'->False
section
variable {n0 lim:Nat}{H H0 Hc H':Hp}{K:V->Hp->Prop}{lv u v:V}{M:List (Int×Bool)}{pts:List Pnt}{cl:List (List Int)}{c:Cp}{s:Nat}
theorem PtsS.big (h:PtsS n0 H0 lv M u pts cl Hc):n0+4<=Hc.length:=(List.getElem?_eq_some_iff.1 h.b3).1
theorem PtsS.move {M':List (Int×Bool)}(h:PtsS n0 H0 lv M u pts cl Hc)(ho:vu (n0+1) Hc H')(hm:H'[n0+1]? = some (.map (mE kI .bool M'))):PtsS n0 H0 lv M' u pts cl H' where
 hx:=HX.of (by have:=h.hx.len;have:=ho.1;omega) fun b hb=>by
  have:=h.hx.len
  have:=h.hn
  rw [ho.2 b (by omega) (by omega),h.hx.same hb]
 hn:=h.hn
 b0:=by have:=h.big;rw [ho.2 _ (by omega) (by omega)];exact h.b0
 b1:=hm
 b2:=by have:=h.big;rw [ho.2 _ (by omega) (by omega)];exact h.b2
 b3:=by have:=h.big;rw [ho.2 _ (by omega) (by omega)];exact h.b3
 ou:=h.ou.keepB fun b o m z e=>by have:=h.ou.belowB _ _ _ _ e;exact ho.2 b (by omega) (by omega)
 len:=h.len
 oc:=fun i hi=>(h.oc i hi).keepB fun b o m z e=>by have:=(h.oc i hi).belowB _ _ _ _ e;exact ho.2 b (by omega) (by omega)
 ap:=h.ap
theorem Hh {l:List Int}(h:br cfI 0 l.length l):l.Pairwise fun a b=>a<=b:=by
 rw [List.pairwise_iff_getElem]
 intro i j hi hj hij
 have:=h i j (Nat.zero_le _) hij hj
 simp only [leC,cfI,List.getD_eq_getElem?_getD,List.getElem?_eq_getElem hi,List.getElem?_eq_getElem hj,Option.getD_some] at this
 omega
theorem zN {a:V}(hs:stor a=true)(h1:aJ a=[a]){n:Int}(hK:K (.func (.func 70) [] [.ptr (H.length+1) 0,.ptr H.length 0]) (H++[.row [a] true,.row [.int .i64 n] true])):aF tbl lim 56 [a,.int .i64 n] H K:=by
 refine ao tbl_at56 rfl ?_
 simp [vf56,hs,h1]
 exact hK
theorem mi {b o:Nat}{cs:List V}{x:V}(hb:H[b]? = some (.row cs true))(hl:lim<=b)(hs:stor x=true)(h1:aJ x=[x])(ho:o<cs.length){L:Lo}:aD lim L H (.ptr b o) x 1=some (L,H.set b (.row (al cs o [x]) true)):=by
 have:o+1<=cs.length:=ho
 simp [aD,bW,hb,hl,hs,h1,this]
structure RndI (Hc:Hp)(n0 bp:Nat)(lv:V)(M:List (Int×Bool))(inner:Bool)(frv:List V)(c:Cp)(s i:Nat)(H':Hp):Prop where
 oth:vu (n0+1) Hc H'
 ex:∃cv M',H'[n0+1]? = some (.map (mE kI .bool M'))/\H'[bp]? = some (.row [cv,.bool inner,.int .i64 (wkS c s i),.int .i64 0] true)/\OwnV (bp+4) H' cv (wkL c s i)/\∀k,(look k M').getD false=true↔(look k M).getD false=true\/k∈wkL c s i
 r1:H'[bp+1]? = some (.row [lv] true)
 r2:H'[bp+2]? = some (.row [.int .i64 (s:Int)] true)
 r3:H'[bp+3]? = some (.loop 4000055 [14] frv)
theorem vu.trans {m:Nat}{A B C:Hp}(h:vu m A B)(g:vu m B C):vu m A C:=⟨Nat.le_trans h.1 g.1,fun b hb hne=>by rw [g.2 b (by have:=h.1;omega) hne,h.2 b hb hne]⟩
theorem sg {i:Nat}{inner:Bool}{frv:List V}(hok:CapOk c)(hs:s<nsN c.P)(hi:i<=rnN (nsN c.P) (nxN c.P) (lsN c) s)(hlim:lim<=n0)(hS:PtsS n0 H0 lv M u pts cl Hc)(hlv:LstV sdC H0 lv (fi c.P (lsN c)))
 (f2:∀v,frR (setPs frv [14] [v]) 2=.ptr n0 0) (f3:∀v,frR (setPs frv [14] [v]) 3=.ptr (n0+2) 0) (f7:∀v,frR (setPs frv [14] [v]) 7=.ptr Hc.length 0) (f14:∀v,frR (setPs frv [14] [v]) 14=v) (flen:48=frv.length)
 (hI:RndI Hc n0 Hc.length lv M inner frv c s i H'):aF tbl lim 3999999 [.yl (Hc.length+3),.int .i64 (itN (nuP c) i s:Nat)] H' fun v H''=>v=.bool true/\RndI Hc n0 Hc.length lv M inner frv c s (i+1) H'':=by
 obtain ⟨⟨o1,o2⟩,⟨cv,M',m1,m2,m3,m4⟩,r1,r2,r3⟩:=hI
 have hbig:=hS.big
 have hlt3:=(List.getElem?_eq_some_iff.1 r3).1
 refine nZ (f:=4000055) (ps:=[14]) (fr:=frv) r3 (by omega) rfl tbl_at4000055 flen rfl ?_
 generalize hq:itN (nuP c) i s=q
 have hqN:q<nsN c.P:=by rw [←hq];exact hok.nu.it hs i
 have hns:=hok.ns
 simp [f14]
 have e2:(H'.set (Hc.length+3) .dead)[n0+2]? = some (.row [.mp (n0+1)] true):=by
  rw [List.getElem?_set_ne (by omega),o2 _ (by omega) (by omega)];exact hS.b2
 have e0:(H'.set (Hc.length+3) .dead)[n0]? = some (.row [lv] true):=by
  rw [List.getElem?_set_ne (by omega),o2 _ (by omega) (by omega)];exact hS.b0
 have e1:(H'.set (Hc.length+3) .dead)[n0+1]? = some (.map (mE kI .bool M')):=by
  rw [List.getElem?_set_ne (by omega)];exact m1
 have ep:(H'.set (Hc.length+3) .dead)[Hc.length]? = some (.row [cv,.bool inner,.int .i64 (wkS c s i),.int .i64 0] true):=by
  rw [List.getElem?_set_ne (by omega)];exact m2
 have ev:OwnV (Hc.length+4) (H'.set (Hc.length+3) .dead) cv (wkL c s i):=m3.keepB fun b o m z e=>by
  have:=m3.belowB _ _ _ _ e
  rw [List.getElem?_set_ne (by omega)]
 have edd:(H'.set (Hc.length+3) .dead)[Hc.length+3]? = some .dead:=List.getElem?_set_self hlt3
 have er1:(H'.set (Hc.length+3) .dead)[Hc.length+1]? = some (.row [lv] true):=by rw [List.getElem?_set_ne (by omega)];exact r1
 have er2:(H'.set (Hc.length+3) .dead)[Hc.length+2]? = some (.row [.int .i64 (s:Int)] true):=by rw [List.getElem?_set_ne (by omega)];exact r2
 have eo:∀b,b<Hc.length->b≠n0+1->(H'.set (Hc.length+3) .dead)[b]? = Hc[b]? := fun b hb hne=>by rw [List.getElem?_set_ne (by omega)];exact o2 b hb hne
 have elen:(H'.set (Hc.length+3) .dead).length=H'.length:=by simp
 generalize H'.set (Hc.length+3) .dead=Hd at *
 have hput:gF lim false [.int .i64] Hd (.mp (n0+1)) (.int .i64 (q:Int)) (.bool true)=some (Hd.set (n0+1) (.map (mE kI .bool (ff (q:Int) true M')))):=Bk (K:=kI) (vc:=V.bool) (u:=true) e1 (by omega) rfl
 have g2:(Hd.set (n0+1) (.map (mE kI .bool (ff (q:Int) true M'))))[n0+2]? = some (.row [.mp (n0+1)] true):=by rw [List.getElem?_set_ne (by omega)];exact e2
 have g0:(Hd.set (n0+1) (.map (mE kI .bool (ff (q:Int) true M'))))[n0]? = some (.row [lv] true):=by rw [List.getElem?_set_ne (by omega)];exact e0
 have g1:(Hd.set (n0+1) (.map (mE kI .bool (ff (q:Int) true M'))))[n0+1]? = some (.map (mE kI .bool (ff (q:Int) true M'))):=List.getElem?_set_self (List.getElem?_eq_some_iff.1 e1).1
 have gp:(Hd.set (n0+1) (.map (mE kI .bool (ff (q:Int) true M'))))[Hc.length]? = some (.row [cv,.bool inner,.int .i64 (wkS c s i),.int .i64 0] true):=by rw [List.getElem?_set_ne (by omega)];exact ep
 have gd:(Hd.set (n0+1) (.map (mE kI .bool (ff (q:Int) true M'))))[Hc.length+3]? = some .dead:=by rw [List.getElem?_set_ne (by omega)];exact edd
 have gr1:(Hd.set (n0+1) (.map (mE kI .bool (ff (q:Int) true M'))))[Hc.length+1]? = some (.row [lv] true):=by rw [List.getElem?_set_ne (by omega)];exact er1
 have gr2:(Hd.set (n0+1) (.map (mE kI .bool (ff (q:Int) true M'))))[Hc.length+2]? = some (.row [.int .i64 (s:Int)] true):=by rw [List.getElem?_set_ne (by omega)];exact er2
 have gv:OwnV (Hc.length+4) (Hd.set (n0+1) (.map (mE kI .bool (ff (q:Int) true M')))) cv (wkL c s i):=ev.keepB fun b o m z e=>by
  have:=ev.belowB _ _ _ _ e
  rw [List.getElem?_set_ne (by omega)]
 have go:∀b,b<Hc.length->b≠n0+1->(Hd.set (n0+1) (.map (mE kI .bool (ff (q:Int) true M'))))[b]? = Hc[b]? := fun b hb hne=>by rw [List.getElem?_set_ne (by omega)];exact eo b hb hne
 have glen:(Hd.set (n0+1) (.map (mE kI .bool (ff (q:Int) true M')))).length=H'.length:=by simp [elen]
 generalize Hd.set (n0+1) (.map (mE kI .bool (ff (q:Int) true M')))=Hm at *
 obtain ⟨cv2,H2,p1,p2,p3,p4,p5,p6⟩:=gv.appendF (lim:=lim) (x:=(q:Int)) ⟨by omega,by omega⟩ (by
  have:=(gM (L:=lsN c) hok.nu hs).1
  rw [DM];omega)
 have below:∀b,b<Hc.length+4->∀o z y,cv≠.sl b o z y:=fun b hb o z y e=>by have:=gv.belowB _ _ _ _ e;omega
 have k0:=(p5 n0 (by omega) (below _ (by omega))).trans g0
 have k1:=(p5 (n0+1) (by omega) (below _ (by omega))).trans g1
 have kp:=(p5 Hc.length (by omega) (below _ (by omega))).trans gp
 have kd:=(p5 (Hc.length+3) (by omega) (below _ (by omega))).trans gd
 have kr1:=(p5 (Hc.length+1) (by omega) (below _ (by omega))).trans gr1
 have kr2:=(p5 (Hc.length+2) (by omega) (below _ (by omega))).trans gr2
 have ko:∀b,b<Hc.length->b≠n0+1->H2[b]? = Hc[b]? := fun b hb hne=>(p5 b (by omega) (below _ (by omega))).trans (go b hb hne)
 have st1:=fun L=>mi (L:=L) (x:=cv2) kp (lim:=lim) (o:=0) (by omega) p2.sl.stor p2.sl.one (by simp)
 have sp1:al [cv,.bool inner,.int .i64 (wkS c s i),.int .i64 0] 0 [cv2]=[cv2,.bool inner,.int .i64 (wkS c s i),.int .i64 0]:=by simp [al]
 rw [sp1] at st1
 have lp1:=(List.getElem?_eq_some_iff.1 kp).1
 have q0:(H2.set Hc.length (.row [cv2,.bool inner,.int .i64 (wkS c s i),.int .i64 0] true))[n0]? = some (.row [lv] true):=by rw [List.getElem?_set_ne (by omega)];exact k0
 have q1:(H2.set Hc.length (.row [cv2,.bool inner,.int .i64 (wkS c s i),.int .i64 0] true))[n0+1]? = some (.map (mE kI .bool (ff (q:Int) true M'))):=by rw [List.getElem?_set_ne (by omega)];exact k1
 have qp:(H2.set Hc.length (.row [cv2,.bool inner,.int .i64 (wkS c s i),.int .i64 0] true))[Hc.length]? = some (.row [cv2,.bool inner,.int .i64 (wkS c s i),.int .i64 0] true):=List.getElem?_set_self lp1
 have qd:(H2.set Hc.length (.row [cv2,.bool inner,.int .i64 (wkS c s i),.int .i64 0] true))[Hc.length+3]? = some .dead:=by rw [List.getElem?_set_ne (by omega)];exact kd
 have qr1:(H2.set Hc.length (.row [cv2,.bool inner,.int .i64 (wkS c s i),.int .i64 0] true))[Hc.length+1]? = some (.row [lv] true):=by rw [List.getElem?_set_ne (by omega)];exact kr1
 have qr2:(H2.set Hc.length (.row [cv2,.bool inner,.int .i64 (wkS c s i),.int .i64 0] true))[Hc.length+2]? = some (.row [.int .i64 (s:Int)] true):=by rw [List.getElem?_set_ne (by omega)];exact kr2
 have qv:OwnV (Hc.length+4) (H2.set Hc.length (.row [cv2,.bool inner,.int .i64 (wkS c s i),.int .i64 0] true)) cv2 (wkL c s i++[(q:Int)]):=p2.keepB fun b o m z e=>by
  have:=p2.belowB _ _ _ _ e
  rw [List.getElem?_set_ne (by omega)]
 have qo:∀b,b<Hc.length->b≠n0+1->(H2.set Hc.length (.row [cv2,.bool inner,.int .i64 (wkS c s i),.int .i64 0] true))[b]? = Hc[b]? := fun b hb hne=>by rw [List.getElem?_set_ne (by omega)];exact ko b hb hne
 have qlen:(H2.set Hc.length (.row [cv2,.bool inner,.int .i64 (wkS c s i),.int .i64 0] true)).length=H2.length:=by simp
 generalize H2.set Hc.length (.row [cv2,.bool inner,.int .i64 (wkS c s i),.int .i64 0] true)=H3 at *
 have hxl:LstV sdC H3 lv (fi c.P (lsN c)):=hlv.mono (HX.of (by have:=hS.hx.len;omega) fun b hb=>by
  have:=hS.hx.len
  have:=hS.hn
  rw [qo b (by omega) (by omega),hS.hx.same hb])
 have ad:=hxl.at (i:=q) (by rw [cx];exact hqN)
 have fa:ct 1 (ept 5 lv q)=some (dB 5 lv q 1):=hxl.faddr (by rw [cx];exact hqN)
 have ld:∀L,aW none L H3 (dB 5 lv q 1)=some (.int .i64 (anN c.P q)):=fun L=>by
  rw [hxl.rd1 (by rw [cx];exact hqN) (by omega),cC hqN];rfl
 have hb:=Bl hok hs i
 have hil:=(gM (L:=lsN c) hok.nu hs).1
 have ha:=Il hok hqN
 have ws:IntKind.wrap .i64 (wkS c s i+anN c.P q)=wkS c s (i+1):=by rw [xW,hq];exact ae (by omega) (by omega)
 have st2:=fun L=>mi (L:=L) (x:=.int .i64 (wkS c s (i+1))) qp (lim:=lim) (o:=2) (by omega) rfl rfl (by simp)
 have sp2:al [cv2,.bool inner,.int .i64 (wkS c s i),.int .i64 0] 2 [.int .i64 (wkS c s (i+1))]=[cv2,.bool inner,.int .i64 (wkS c s (i+1)),.int .i64 0]:=by simp [al]
 rw [sp2] at st2
 simp [f2,f3,f7,rd0,cm,gW,e2,hput,gp,p1,st1,qp,q0,ad,fa,ld,ws,st2,-aD,nl]
 refine ⟨⟨_,_,_,r3⟩,qd,⟨⟨by simp;omega,fun b hb hne => ?_⟩,⟨cv2,ff (q:Int) true M',?_,?_,?_,fun k => ?_⟩,?_,?_,?_⟩⟩
 ·rw [List.getElem?_set_ne (by omega),List.getElem?_set_ne (by omega)];exact qo b hb hne
 ·rw [List.getElem?_set_ne (by omega),List.getElem?_set_ne (by omega)];exact q1
 ·rw [List.getElem?_set_ne (by omega),List.getElem?_set_self (by omega)]
 ·rw [zO,hq]
  exact qv.keepB fun b o m z e=>by
   have:=qv.belowB _ _ _ _ e
   rw [List.getElem?_set_ne (by omega),List.getElem?_set_ne (by omega)]
 ·rw [mg,zO,hq,List.mem_append,List.mem_singleton]
  by_cases e:k=(q:Int)
  ·simp [e]
  ·rw [if_neg e,m4 k];simp [e]
 ·rw [List.getElem?_set_ne (by omega),List.getElem?_set_ne (by omega)];exact qr1
 ·rw [List.getElem?_set_ne (by omega),List.getElem?_set_ne (by omega)];exact qr2
 ·rw [List.getElem?_set_self (by simp;omega)]
end
noncomputable def csP (c:Cp)(s:Nat):List Int:=jV (fK (PtR c) (nsN c.P) s)
noncomputable def ly (c:Cp)(s:Nat):Int:=((fK (PtR c) (nsN c.P) s).map (anN c.P)).sum
noncomputable def Kx (c:Cp)(s:Nat)(inner:Bool)(v:V):Pnt:=⟨v,inner,ly c s,(if inner then 360 else 180)-ly c s,(csP c s).getD 0 0⟩
section
variable {n0 lim:Nat}{H H0 Hc H':Hp}{K:V->Hp->Prop}{lv u v:V}{M:List (Int×Bool)}{pts:List Pnt}{cl:List (List Int)}{c:Cp}{s:Nat}
theorem K9:Ordr cfI:=⟨fun x y z h1 h2=>by simp only [leC,cfI] at *;omega,fun x y=>by simp only [leC,cfI];omega⟩
theorem QO {cs xs:List V}(hl:lim<=H.length)(h:xs.length=cs.length):bW lim (H++[Blk.row cs true]) H.length 0 xs=some (H++[Blk.row xs true]):=by
 have e:al cs 0 xs=xs:=by simp [al,h]
 simp [bW,hl,h,e]
theorem OwnV.row_of {m:Nat}{f:List Int}(h:OwnV m H v f)(hne:0<f.length):∃b,v=.sl b 0 f.length 1/\m<=b/\H[b]? = some (.row (bH f) true):=by
 cases h with
 | nil=>simp at hne
 | row h1 h2=>exact ⟨_,rfl,h1,h2⟩
theorem lQ {inner:Bool} (hok:CapOk c) (hs:s<nsN c.P) (hcl:iW (nsN c.P) (nxN c.P) (lsN c) s∨dX (nsN c.P) (nxN c.P) (lsN c) s) (hlim:lim≤n0) (hS:PtsS n0 H0 lv M u pts cl Hc) (hlv:LstV sdC H0 lv (fi c.P (lsN c))) (hpl:pts.length≤1000)
 (hK:∀H' M' u' v',PtsS n0 H0 lv M' u' (pts++[Kx c s inner v']) (cl++[csP c s]) H'->(∀k,(look k M').getD false=true↔(look k M).getD false=true\/k∈csP c s)->K (.tup []) H') :
 aF tbl lim 55 [.int .i64 s,.bool inner,.ptr n0 0,.ptr (n0+2) 0,.ptr (n0+3) 0] Hc K:=by
 have hbig:=hS.big
 have hns:=hok.ns
 refine ao tbl_at55 rfl ?_
 have ld0:∀L X,aW none L (Hc++X) (.ptr n0 0)=some lv:=fun L X=>by
  rw [bX (cs:=[lv]) (own:=true) (by rw [List.getElem?_append_left (by omega)];exact hS.b0)];rfl
 have s4:=QO (H:=Hc) (lim:=lim) (cs:=[V.snil,.bool false,.int .i64 0,.int .i64 0]) (xs:=[V.snil,.bool inner,.int .i64 0,.int .i64 0]) (by omega) rfl
 simp [vf55,al,ld0,s4,hlv.stor,-ag]
 refine zN hlv.stor hlv.one ?_
 simp
 generalize hg:eD _ 48=frv
 have f2:∀v,frR (setPs frv [14] [v]) 2=.ptr n0 0:=by intro v;rw [←hg,kL (by omega)];simp
 have f3:∀v,frR (setPs frv [14] [v]) 3=.ptr (n0+2) 0:=by intro v;rw [←hg,kL (by omega)];simp
 have f7:∀v,frR (setPs frv [14] [v]) 7=.ptr Hc.length 0:=by intro v;rw [←hg,kL (by omega)];simp
 have f14:∀v,frR (setPs frv [14] [v]) 14=v:=by intro v;rw [←hg,kL (by omega)];simp
 have flen:48=frv.length:=by rw [←hg];simp [eD]
 clear hg
 obtain ⟨w1,w2,w3⟩:=pR hok hs
 obtain ⟨n1,_,_⟩:=gM (L:=lsN c) hok.nu hs
 generalize hrn:rnN (nsN c.P) (nxN c.P) (lsN c) s=n at *
 have hsl:s<(fi c.P (lsN c)).length:=by rw [cx];exact hs
 refine oD (n:=n) (c:=s) (lv:=lv) (l:=fi c.P (lsN c)) (I:=fun i H'=>RndI Hc n0 Hc.length lv M inner frv c s i H') (KP hok.sm_ok (by omega)) hsl w2 w3 ?_ ?_ ?_ ?_
 ·intro i H' hI
  refine ⟨hI.r2,hI.r1,hlv.mono (HX.of (by have:=hS.hx.len;have:=hI.oth.1;omega) fun b hb => ?_)⟩
  have:=hS.hx.len
  have:=hS.hn
  rw [hI.oth.2 b (by omega) (by omega),hS.hx.same hb]
 ·refine ⟨⟨by simp,fun b hb _=>by rw [List.getElem?_append_left hb]⟩,⟨.snil,M,?_,by simp [wkS],.nil,fun k=>by simp [wkL]⟩,by simp,by simp,by simp⟩
  rw [List.getElem?_append_left (by omega)];exact hS.b1
 ·intro i H' hi hI
  rw [w1 i hi]
  exact sg hok hs (by rw [hrn];exact hi) hlim hS hlv f2 f3 f7 f14 flen hI
 ·intro H' hI
  refine ⟨⟨_,_,_,hI.r3⟩,?_⟩
  obtain ⟨⟨o1,o2⟩,⟨cv,M',m1,m2,m3,m4⟩,r1,r2,r3⟩:=hI
  have hl3:=(List.getElem?_eq_some_iff.1 r3).1
  have e1:(H'.set (Hc.length+3) .dead)[n0+1]? = some (.map (mE kI .bool M')):=by rw [List.getElem?_set_ne (by omega)];exact m1
  have ep:(H'.set (Hc.length+3) .dead)[Hc.length]? = some (.row [cv,.bool inner,.int .i64 (wkS c s (n+1)),.int .i64 0] true):=by rw [List.getElem?_set_ne (by omega)];exact m2
  have ev:OwnV (Hc.length+4) (H'.set (Hc.length+3) .dead) cv (wkL c s (n+1)):=m3.keepB fun b o m z e=>by
   have:=m3.belowB _ _ _ _ e
   rw [List.getElem?_set_ne (by omega)]
  have eo:vu (n0+1) Hc (H'.set (Hc.length+3) .dead):=⟨by simp;exact o1,fun b hb hne=>by rw [List.getElem?_set_ne (by omega)];exact o2 b hb hne⟩
  have elen:(H'.set (Hc.length+3) .dead).length=H'.length:=by simp
  generalize H'.set (Hc.length+3) .dead=Hd at *
  have sumE:wkS c s (n+1)=ly c s:=by rw [←hrn];exact HY hok hs hcl
  rw [sumE] at ep m2
  have hls:0<=ly c s/\ly c s<=359*49:=by
   have:=Bl hok hs (n+1)
   rw [sumE] at this;omega
  generalize hsum:ly c s=sm at *
  have hwl:(wkL c s (n+1)).length=n+1:=DM
  obtain ⟨bc,rfl,b1,b2⟩:=ev.row_of (by omega)
  have hbl:=(List.getElem?_eq_some_iff.1 b2).1
  simp [m2,rd0]
  refine ME (b:=bc) (l:=wkL c s (n+1)) b2 (by omega) K9 (by rw [hwl];omega) fun H2 l2 hs2 hso => ?_
  have hsorted:l2=csP c s:=by
   have hl2:l2.length=(wkL c s (n+1)).length:=hs2.n
   have:=Gd hok hs hcl (l:=l2) (by rw [hrn];exact hs2.perm) (Hh (by rw [hl2];exact hso))
   exact this
  have hp2:=(hs2.oth Hc.length (by omega) (by omega)).trans ep
  have hlen2:=hs2.len
  have l2len:l2.length=n+1:=by have:=hs2.n;omega
  have hrow:H2[bc]? = some (.row (bH (csP c s)) true):=by rw [←hsorted];exact hs2.row
  have hcl2:(csP c s).length=(wkL c s (n+1)).length:=by rw [←hsorted];omega
  generalize hdf:(if inner=true then (360:Int) else 180)-sm=df
  have hdfb : -100000<=df/\df<=360:=by rw [←hdf];split<;>omega
  have g3:∀H3:Hp,H3=H2.set Hc.length (.row [.sl bc 0 (wkL c s (n+1)).length 1,.bool inner,.int .i64 sm,.int .i64 df] true) ->
   ∃v' Hx,aP lim 4 48 (H3++[.row [.sl bc 0 (wkL c s (n+1)).length 1,.bool inner,.int .i64 sm,.int .i64 df] true]) u (.sl H3.length 0 1 4)=some (v',Hx)/\stor v'=true/\aJ v'=[v']/\Hx[n0+3]? = some (.row [u] true)/\H3[n0+3]? = some (.row [u] true)/\K (.tup []) (Hx.set (n0+3) (.row [v'] true)):=by
   rintro H3 rfl
   have hO3:vu (n0+1) Hc (H2.set Hc.length (.row [.sl bc 0 (wkL c s (n+1)).length 1,.bool inner,.int .i64 sm,.int .i64 df] true)):=by
    refine ⟨by have:=eo.1;simp;omega,fun b hb hne => ?_⟩
    rw [List.getElem?_set_ne (by omega),hs2.oth b (by have:=eo.1;omega) (by omega)]
    exact eo.2 b hb hne
   have hm3:(H2.set Hc.length (.row [.sl bc 0 (wkL c s (n+1)).length 1,.bool inner,.int .i64 sm,.int .i64 df] true))[n0+1]? = some (.map (mE kI .bool M')):=by
    rw [List.getElem?_set_ne (by omega),hs2.oth _ (by omega) (by omega)];exact e1
   have hS3:=hS.move hO3 hm3
   have hrow3:(H2.set Hc.length (.row [.sl bc 0 (wkL c s (n+1)).length 1,.bool inner,.int .i64 sm,.int .i64 df] true))[bc]? = some (.row (bH (csP c s)) true):=by
    rw [List.getElem?_set_ne (by omega)];exact hrow
   have hl3':Hd.length<=(H2.set Hc.length (.row [.sl bc 0 (wkL c s (n+1)).length 1,.bool inner,.int .i64 sm,.int .i64 df] true)).length:=by simpa using hlen2
   generalize H2.set Hc.length (.row [.sl bc 0 (wkL c s (n+1)).length 1,.bool inner,.int .i64 sm,.int .i64 df] true)=H3 at *
   have hbig3:=hS3.big
   obtain ⟨v',Hx,c1,c2,c3,c4,c5,c6⟩:=hS3.ou.appendF2 (lim:=lim) (bytes:=48) (x:=Kx c s inner (.sl bc 0 (wkL c s (n+1)).length 1)) (cs:=[.sl bc 0 (wkL c s (n+1)).length 1,.bool inner,.int .i64 sm,.int .i64 df]) (by
    rw [←hdf,←hsum];rfl) ⟨by omega,by omega⟩ (by omega) (by omega)
   have ub:∀b,b<n0+4->∀o z y,u≠.sl b o z y:=fun b hb o z y e=>by have:=hS3.ou.belowB _ _ _ _ e;omega
   have hbu:∀o z y,u≠.sl bc o z y:=fun o z y e=>by
    have:=hS.ou.belowB _ _ _ _ e;omega
   refine ⟨v',Hx,c1,c2.lst.stor,c2.lst.one,(c5 _ (by omega) (ub _ (by omega))).trans hS3.b3,hS3.b3,?_⟩
   have d0:=(c5 n0 (by omega) (ub _ (by omega))).trans hS3.b0
   have d1:=(c5 (n0+1) (by omega) (ub _ (by omega))).trans hS3.b1
   have d2:=(c5 (n0+2) (by omega) (ub _ (by omega))).trans hS3.b2
   have dr:=(c5 bc (by omega) hbu).trans hrow3
   have hH0:=hS3.hn
   refine hK _ M' v' (.sl bc 0 (wkL c s (n+1)).length 1) ⟨?_,hS3.hn,?_,?_,?_,?_,?_,?_,?_,?_⟩ ?_
   ·have:=c3 H0 hS3.hx (by omega)
    refine HX.of (by have:=this.len;simpa using this) fun b hb => ?_
    rw [List.getElem?_set_ne (by omega),this.same hb]
   ·rw [List.getElem?_set_ne (by omega)];exact d0
   ·rw [List.getElem?_set_ne (by omega)];exact d1
   ·rw [List.getElem?_set_ne (by omega)];exact d2
   ·rw [List.getElem?_set_self (by omega)]
   ·refine c2.keepB fun b o m z e => ?_
    have:=c2.belowB _ _ _ _ e
    rw [List.getElem?_set_ne (by omega)]
   ·simp [hS.len]
   ·intro i hi
    rw [List.length_append,List.length_singleton] at hi
    by_cases hlt:i<pts.length
    ·rw [bL hlt,bL (by rw [hS.len];exact hlt)]
     refine (hS3.oc i hlt).keepB fun b o m z e => ?_
     have hb:=(hS3.oc i hlt).belowB _ _ _ _ e
     rw [List.getElem?_set_ne (by omega)]
     exact c5 b hb.2 fun o' z' y' e'=>hS3.ap i hlt _ _ _ _ _ _ _ e' e
    ·have:i=pts.length:=by omega
     subst this
     rw [bO rfl,bO hS.len.symm]
     show OwnV (n0+4) _ (V.sl bc 0 (wkL c s (n+1)).length 1) (csP c s)
     rw [←hcl2]
     exact .row (by omega) (by rw [List.getElem?_set_ne (by omega)];exact dr)
   ·intro i hi b o z y o' z' y' e e'
    rw [List.length_append,List.length_singleton] at hi
    have hb6:=c6 _ _ _ _ e
    by_cases hlt:i<pts.length
    ·rw [bL hlt] at e'
     have:=(hS3.oc i hlt).belowB _ _ _ _ e'
     omega
    ·have:i=pts.length:=by omega
     subst this
     rw [bO rfl] at e'
     simp only [Kx] at e'
     cases e'
     omega
   ·intro k
    rw [m4 k]
    have:k∈wkL c s (n+1)↔k∈csP c s:=by rw [←hsorted];exact hs2.perm.mem_iff.symm
    rw [this]
  obtain ⟨v',Hx,y1,y2,y3,y4,y5,y6⟩:=g3 _ rfl
  have w1:IntKind.wrap .i64 (180-sm)=180-sm:=ae (by omega) (by omega)
  have w2:IntKind.wrap .i64 (360-sm)=360-sm:=ae (by omega) (by omega)
  have hlt2:=(List.getElem?_eq_some_iff.1 hp2).1
  have st1:=fun L=>mi (L:=L) (x:=.int .i64 (180-sm)) hp2 (lim:=lim) (o:=3) (by omega) rfl rfl (by simp)
  have sp1:al [.sl bc 0 (wkL c s (n+1)).length 1,.bool inner,.int .i64 sm,.int .i64 0] 3 [.int .i64 (180-sm)]=[.sl bc 0 (wkL c s (n+1)).length 1,.bool inner,.int .i64 sm,.int .i64 (180-sm)]:=by simp [al]
  rw [sp1] at st1
  have stx:=fun L=>mi (L:=L) (x:=v') y4 (lim:=lim) (o:=0) (by omega) y2 y3 (by simp)
  have spx:al [u] 0 [v']=[v']:=by simp [al]
  rw [spx] at stx
  cases inner with
  | false =>
    have edf:df=180-sm:=by rw [←hdf];simp
    rw [edf] at y1 y5
    have hl4:∀L,aW (some 4) L (H2.set Hc.length (.row [.sl bc 0 (wkL c s (n+1)).length 1,.bool false,.int .i64 sm,.int .i64 (180-sm)] true)) (.ptr Hc.length 0)=some (.agg [.sl bc 0 (wkL c s (n+1)).length 1,.bool false,.int .i64 sm,.int .i64 (180-sm)]):=fun L=>by
     rw [bX (List.getElem?_set_self hlt2)];rfl
    have hl3:∀L,aW none L (H2.set Hc.length (.row [.sl bc 0 (wkL c s (n+1)).length 1,.bool false,.int .i64 sm,.int .i64 (180-sm)] true)) (.ptr (n0+3) 0)=some u:=fun L=>by
     rw [bX y5];rfl
    have hl2:∀L,aW none L H2 (.ptr Hc.length 2)=some (.int .i64 sm):=fun L=>by rw [bX hp2];rfl
    generalize H2.set Hc.length (.row [.sl bc 0 (wkL c s (n+1)).length 1,.bool false,.int .i64 sm,.int .i64 (180-sm)] true)=H3 at *
    simp [hl2,w1,st1,hl3,hl4,al,y1,stx,-aD,-ag]
    exact y6
  | true =>
    have edf:df=360-sm:=by rw [←hdf];simp
    rw [edf] at y1 y5
    have hl2:∀L,aW none L H2 (.ptr Hc.length 2)=some (.int .i64 sm):=fun L=>by rw [bX hp2];rfl
    have hp3:(H2.set Hc.length (.row [.sl bc 0 (wkL c s (n+1)).length 1,.bool true,.int .i64 sm,.int .i64 (180-sm)] true))[Hc.length]? = some (.row [.sl bc 0 (wkL c s (n+1)).length 1,.bool true,.int .i64 sm,.int .i64 (180-sm)] true):=List.getElem?_set_self hlt2
    have hl2':∀L,aW none L (H2.set Hc.length (.row [.sl bc 0 (wkL c s (n+1)).length 1,.bool true,.int .i64 sm,.int .i64 (180-sm)] true)) (.ptr Hc.length 2)=some (.int .i64 sm):=fun L=>by rw [bX hp3];rfl
    have st2:=fun L=>mi (L:=L) (x:=.int .i64 (360-sm)) hp3 (lim:=lim) (o:=3) (by omega) rfl rfl (by simp)
    have sp2:al [.sl bc 0 (wkL c s (n+1)).length 1,.bool true,.int .i64 sm,.int .i64 (180-sm)] 3 [.int .i64 (360-sm)]=[.sl bc 0 (wkL c s (n+1)).length 1,.bool true,.int .i64 sm,.int .i64 (360-sm)]:=by simp [al]
    rw [sp2,List.set_set] at st2
    have hl4:∀L,aW (some 4) L (H2.set Hc.length (.row [.sl bc 0 (wkL c s (n+1)).length 1,.bool true,.int .i64 sm,.int .i64 (360-sm)] true)) (.ptr Hc.length 0)=some (.agg [.sl bc 0 (wkL c s (n+1)).length 1,.bool true,.int .i64 sm,.int .i64 (360-sm)]):=fun L=>by
     rw [bX (List.getElem?_set_self hlt2)];rfl
    have hl3:∀L,aW none L (H2.set Hc.length (.row [.sl bc 0 (wkL c s (n+1)).length 1,.bool true,.int .i64 sm,.int .i64 (360-sm)] true)) (.ptr (n0+3) 0)=some u:=fun L=>by
     rw [bX y5];rfl
    generalize H2.set Hc.length (.row [.sl bc 0 (wkL c s (n+1)).length 1,.bool true,.int .i64 sm,.int .i64 (180-sm)] true)=H3 at *
    generalize H2.set Hc.length (.row [.sl bc 0 (wkL c s (n+1)).length 1,.bool true,.int .i64 sm,.int .i64 (360-sm)] true)=H4 at *
    simp [hl2,w1,st1,hl2',w2,st2,hl3,hl4,al,y1,stx,-aD,-ag]
    exact y6
end
end Go.Proofs.YtgjlhdggllakbaaGreatDoor.Vm
