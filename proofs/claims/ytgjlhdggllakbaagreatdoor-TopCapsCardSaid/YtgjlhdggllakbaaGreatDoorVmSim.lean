/- Code, functions, calls: what the machine says, the model does. -/
import Derived.Test.YtgjlhdggllakbaaGreatDoorVmLoop
import Derived.Scope
import Derived.LoopN
set_option linter.unusedVariables false
set_option linter.unusedSimpArgs false
set_option linter.unusedSectionVars false
namespace Go.Proofs.YtgjlhdggllakbaaGreatDoor.Vm
open Go
section
variable {call:b8}{lim:Nat}
theorem kT (hc:bw call):∀{l:List VOper} {s s':St},dG call lim l s=some s'->cJ lim s.H s'.H/\s.L.length<=s'.L.length
 | [],s,s',h=>by simp [dG] at h;subst h;exact ⟨.refl,Nat.le_refl _⟩
 | o :: l,s,s',h=>by
   simp only [dG] at h
   split at h
   ·rename_i s1 h1
    obtain ⟨v,hv,_⟩:=gD h1
    obtain ⟨e1,e2,_⟩:=kJ hc hv
    obtain ⟨f1,f2⟩:=kT hc h
    exact ⟨e1.trans f1,Nat.le_trans e2 f2⟩
   ·cases h
theorem oU (hc:bw call){head:List VOper}{s s':St}(h:dA call lim 0 head s [] ([],false)=some s'):cJ lim s.H s'.H/\s.L.length<=s'.L.length:=by
 obtain ⟨σ,acc,hp,val,h0,hend,R⟩:=nV h
 have h1:=cL hc R (i:=0) (j:=head.length) (by omega) (Nat.le_refl _)
 have h2:=Dz hc R (i:=0) (j:=head.length) (by omega) (Nat.le_refl _)
 have h3:=jO hc R (i:=0) (j:=head.length) (by omega) (Nat.le_refl _)
 rw [h0,hend] at h1 h2 h3
 exact ⟨⟨h1,h2⟩,h3⟩
theorem B2 (hc:bw call){head:List VOper}{s s':St}(h:iG call 0 head s []=some s'):cJ lim s.H s'.H/\s.L.length<=s'.L.length :=
 oU hc (lO rfl h)
theorem bQ (hc:bw call):∀{n:Nat} {c:VCode} {s s':St} {e:VExit},aA call lim n c s=some (e,s')→cJ lim s.H s'.H∧s.L.length≤s'.L.length
 | 0,c,s,s',e,h=>by simp [aA] at h
 | n + 1,c,s,s',e,h=>by
   have rf:cJ lim s.H s.H/\s.L.length<=s.L.length:=⟨.refl,Nat.le_refl _⟩
   cases c with
   | skip=>simp [aA] at h;obtain ⟨_,rfl⟩:=h;exact rf
   | exit id=>simp [aA] at h;obtain ⟨_,rfl⟩:=h;exact rf
   | ret=>simp [aA] at h;obtain ⟨_,rfl⟩:=h;exact rf
   | reg ops =>
     simp only [aA] at h
     split at h
     ·rename_i s1 h1;cases h;exact kT hc h1
     ·cases h
   | draw head tail =>
     simp only [aA] at h
     split at h
     case h_2=>cases h
     rename_i s1 h1
     split at h
     case h_2=>cases h
     rename_i s2 h2
     cases h
     obtain ⟨a1,a2⟩:=B2 (lim:=lim) hc h1
     obtain ⟨b1,b2⟩:=kT hc h2
     exact ⟨a1.trans b1,Nat.le_trans a2 b2⟩
   | drawS head tail =>
     simp only [aA] at h
     split at h
     case h_2=>cases h
     rename_i s1 h1
     split at h
     case h_2=>cases h
     rename_i s2 h2
     cases h
     obtain ⟨a1,a2⟩:=oU hc h1
     obtain ⟨b1,b2⟩:=kT hc h2
     exact ⟨a1.trans b1,Nat.le_trans a2 b2⟩
   | seq a b =>
     simp only [aA] at h
     split at h
     ·rename_i s1 h1
      obtain ⟨a1,a2⟩:=bQ hc h1
      obtain ⟨b1,b2⟩:=bQ hc h
      exact ⟨a1.trans b1,Nat.le_trans a2 b2⟩
     ·exact bQ hc h
   | cond c a b =>
     simp only [aA] at h
     split at h
     ·exact bQ hc h
     ·exact bQ hc h
     ·cases h
   | block id body =>
     simp only [aA] at h
     split at h
     ·rename_i id' s1 h1
      have:=bQ hc h1
      split at h<;>(cases h;exact this)
     ·exact bQ hc h
   | loop body =>
     simp only [aA] at h
     split at h
     ·rename_i s1 h1
      obtain ⟨a1,a2⟩:=bQ hc h1
      obtain ⟨b1,b2⟩:=bQ hc h
      exact ⟨a1.trans b1,Nat.le_trans a2 b2⟩
     ·exact bQ hc h
   | scope body =>
     simp only [aA] at h
     exact bQ hc h
   | stuck=>simp [aA] at h
   | prim _=>simp [aA] at h
   | rangeF g f ps nt =>
     simp only [aA] at h
     split at h
     case h_2=>cases h
     split at h
     ·cases h
     split at h
     case h_2=>cases h
     rename_i v H2 h1
     split at h
     case h_2=>cases h
     cases h
     obtain ⟨e1,e2⟩:=hc _ _ _ _ _ _ h1
     simp only [List.length_append,List.length_cons,List.length_nil] at e1
     refine ⟨⟨by simp;omega,fun b hb hl => ?_⟩,Nat.le_refl _⟩
     simp only
     rw [List.getElem?_set_ne (by omega),e2 b (by simp;omega) hl,List.getElem?_append_left hb]
end
theorem jw {T:Tbl}{call:b8}{n lim:Nat}{H H':Hp}{args:List V}{v:V}(h:gG T call n lim H args=some (v,H')) :
 ∃ b xs f ps fr vf x y s1 f1 ps1 fr1 s,args=.yl b :: xs∧H[b]? = some (.loop f ps fr)∧lim≤b∧xs.length=ps.length∧T f=some vf∧vf.nparams=fr.length∧vf.body=.seq x y ∧
   aA call lim n x ⟨frR (setPs fr ps xs),[],H⟩=some (.normal,s1)/\s1.H[b]? = some (.loop f1 ps1 fr1)/\aA call lim n y ⟨s1.fr,s1.L,s1.H.set b .dead⟩=some (.normal,s)/\s.H[b]? = some .dead/\v=.bool true/\H'=s.H.set b (.loop f ps fr)/\rB<=f:=by
 unfold gG at h
 split at h
 case h_2=>cases h
 rename_i b xs
 split at h
 case h_2=>cases h
 rename_i f ps fr hb
 split at h
 case isFalse=>cases h
 rename_i hlb
 split at h
 case h_2=>cases h
 rename_i vf hvf
 split at h
 case isFalse=>cases h
 rename_i hnp
 split at h
 case h_2=>cases h
 rename_i x y hbody
 split at h
 case h_2=>cases h
 rename_i s1 h1
 split at h
 case h_2=>cases h
 rename_i f1 ps1 fr1 hb1
 split at h
 case h_2=>cases h
 rename_i s h2
 split at h
 case h_2=>cases h
 rename_i hd
 cases h
 exact ⟨b,xs,f,ps,fr,vf,x,y,s1,f1,ps1,fr1,s,rfl,hb,hlb.1,hlb.2.1,hvf,hnp,hbody,h1,hb1,h2,hd,rfl,rfl,hlb.2.2⟩
theorem wT {T:Tbl}{call:b8}(hc:bw call){n lim:Nat}{H H':Hp}{args:List V}{v:V}(h:gG T call n lim H args=some (v,H')):cJ lim H H':=by
 obtain ⟨b,xs,f,ps,fr,vf,x,y,s1,f1,ps1,fr1,s,_,hb,hl,_,_,_,_,h1,hb1,h2,hd,rfl,rfl,_⟩:=jw h
 obtain ⟨e1,e2⟩:=(bQ hc h1).1
 obtain ⟨e3,e4⟩:=(bQ hc h2).1
 simp only [List.length_set] at e1 e3
 refine ⟨by simp only [List.length_set];omega,fun b' hb' hl' => ?_⟩
 rw [List.getElem?_set_ne (by omega),e4 b' (by simp only [List.length_set];omega) hl']
 simp only
 rw [List.getElem?_set_ne (by omega),e2 b' hb' hl']
theorem mv (T:Tbl):∀n,bw (fU T n)
 | 0=>fun lim f args H v H' h=>by simp [fU] at h
 | n + 1=>fun lim f args H v H' h=>by
   simp only [fU] at h
   split at h
   ·exact wT (mv T n) h
   split at h
   ·cases h
   split at h
   ·cases h
   split at h
   case isFalse=>cases h
   split at h
   ·split at h
    ·cases h;exact .app _
    ·cases h
   split at h
   ·cases h
   ·rename_i e s _ hs
    split at h
    ·cases h
     exact (bQ (mv T n) hs).1
    ·cases h
   ·cases h
def uS:VExit->Exit
 | .normal=>.normal
 | .exit id=>.exit id
 | .ret=>.ret
section
variable {F:Fence}{n:Nat}{P:Program}{Q:Exit->Act->World->Prop}{a:Act}{w:World}{b:Frame}{k:List Item}{cs:List Frame}
theorem yt {c:Code}:step P (lone (b.atR a (.code (.scope c) :: k)) cs w)=.next (lone (b.atR a (.code c :: .inScope c :: k)) cs w) :=
 step_lone_go (by simp [stepG,stepG.exec,Frame.atR])
theorem sK {c:Code}:step P (lone (b.atR a (.inScope c :: k)) cs w)=.next (lone (b.atR a k) cs w) :=
 step_lone_go (by simp [stepG,stepG.exec,Frame.atR])
theorem kX {c:Code}(h:c.wpIn F n P (Exit.noGoto Q) a w):(Code.scope c).wpIn F n P Q a w:=by
 intro b k cs hro hb hr
 obtain ⟨e,a₁,w₁,hq,harr⟩:=h b (.inScope c :: k) cs hro hb hr
 have s0:=StepsIn.one (fenced_calm (P:=P) (fr:=b.atR a (.code (.scope c) :: k)) (cs:=cs) (w:=w) hb hr rfl) (yt (P:=P) (b:=b) (a:=a) (k:=k) (c:=c))
 cases e with
 | normal=>exact ⟨.normal,a₁,w₁,hq,.trans s0 (StepsIn.trans harr (.one (fenced_calm (fr:=b.atR a₁ (.inScope c :: k)) hb hr rfl) sK))⟩
 | exit id =>
   have hx:exitTo id (.inScope c :: k)=exitTo id k:=by simp [exitTo]
   exact ⟨.exit id,a₁,w₁,hq,fun k' hk=>StepsIn.trans s0 (harr.1 k' (by rw [hx];exact hk)),
    fun hr' hk=>let ⟨k₁,h1,h2⟩:=harr.2 hr' (by rw [hx];exact hk);⟨k₁,h1,StepsIn.trans s0 h2⟩⟩
 | goto l=>exact hq.elim
 | ret=>exact ⟨_,a₁,w₁,hq,.of_steps s0 harr⟩
 | panic ch=>exact ⟨_,a₁,w₁,hq,.of_steps s0 harr⟩
 | outgrown=>exact ⟨_,a₁,w₁,hq,.of_steps s0 harr⟩
end
def xH (lim:Nat)(e:VExit)(s s':St)(ρ:Loc)(lam:Lam)(a:Act)(w:World):Exit->Act->World->Prop:=fun e' a' w' =>
 e'=uS e/\∃ms:List Nat,a'.defers=ms.map mkD++a.defers/\a'.tmps.size=a.tmps.size/\∃ρ' lam',Stands ρ' lam' s' a' w'/\Grow lim (fun _=>True) ρ lam s.L s.H w ρ' lam' s'.L s'.H w'/\nn w.heap.size ms lam' w'
section
variable {P:Program}{call:b8}{lim:Nat}{glob:List Nat}{nt:Nat}{r:Option Nat}
theorem xH.trans {e:VExit}{s s1 s2:St}{ρ ρ1:Loc}{lam lam1:Lam}{a a1:Act}{w w1:World}{ms:List Nat}(hd:a1.defers=ms.map mkD++a.defers)(hz:a1.tmps.size=a.tmps.size)(g:Grow lim (fun _=>True) ρ lam s.L s.H w ρ1 lam1 s1.L s1.H w1)
 (hst:Stands ρ1 lam1 s1 a1 w1) (hm:nn w.heap.size ms lam1 w1) {e':Exit} {a':Act} {w':World} (h:xH lim e s1 s2 ρ1 lam1 a1 w1 e' a' w'):xH lim e s s2 ρ lam a w e' a' w':=by
 obtain ⟨h1,ms2,h2,h3,ρ',lam',h4,h5,h6⟩:=h
 exact ⟨h1,ms2++ms,by rw [h2,hd];simp,h3.trans hz,ρ',lam',h4,Grow.trans g h5 hst.L.dom,(hm.keep hst.H h5).app h6 g.size fun r hr=>(Array.getElem?_eq_some_iff.1 (hm.2 r hr).2.1).1⟩
theorem dg (hm:P.follows .mixedOrders=true) (hcall:iB P call) (hc:bw call) :
 ∀ (n:Nat) (c:Code) (vc:VCode) (s s2:St) (e:VExit) (ρ:Loc) (lam:Lam) (a:Act) (w:World),bG P glob nt c=some vc→aA call lim n vc s=some (e,s2)→nt=a.tmps.size→Stands ρ lam s a w →
   cu ρ s.H.length s2.H.length->fB lam s.L.length s2.L.length->(∀t∈gI c,r=none/\∀f',rK glob=some f'->sn rX f'=some t)->c.wpIn (rF r) 0 P (xH lim e s s2 ρ lam a w) a w
 | 0,c,vc,s,s2,e,ρ,lam,a,w,hs,he,hnt,hst,hfR,hfL,hR=>by simp [aA] at he
 | n + 1, c, vc,s,s2,e,ρ,lam,a,w,hs,he,hnt,hst,hfR,hfL,hR=>by
   have stay:∀ex,e=ex->s2=s->xH lim e s s2 ρ lam a w (uS ex) a w:=by
    rintro ex rfl rfl
    exact ⟨rfl,[],rfl,rfl,ρ,lam,hst,Grow.refl,.nil⟩
   cases c with
   | skip =>
     simp [bG] at hs;subst hs
     simp [aA] at he
     exact wpIn_skip (stay .normal he.1.symm he.2.symm)
   | label l =>
     simp [bG] at hs;subst hs
     simp [aA] at he
     exact wpIn_label (stay .normal he.1.symm he.2.symm)
   | exit id =>
     simp [bG] at hs;subst hs
     simp [aA] at he
     exact wpIn_exit (stay (.exit id) he.1.symm he.2.symm)
   | ret =>
     simp [bG] at hs;subst hs
     simp [aA] at he
     exact wpIn_ret (stay .ret he.1.symm he.2.symm)
   | region id ops draw =>
     simp only [bG] at hs
     split at hs
     case h_2=>cases hs;simp [aA] at he
     rename_i vops hops
     split at hs
     ·rename_i hdraw
      subst hdraw
      split at hs
      case isFalse=>cases hs;simp [aA] at he
      rename_i hlex
      by_cases hinc:Em ops vops=true
      ·rw [if_pos hinc] at hs
       cases hs
       simp only [aA] at he
       split at he
       case h_2=>cases he
       rename_i s1 h1
       cases he
       exact MS (glob:=glob) hm hcall hc hops hlex hinc h1 (Nat.le_of_eq hnt) hst hfR hfL fun a' ρ' lam' w' e1 e2 e3 g=>⟨rfl,[],e1,e2,ρ',lam',e3,g,.nil⟩
      rw [if_neg hinc] at hs
      split at hs
      ·cases hs
       simp only [aA] at he
       split at he
       case h_2=>cases he
       rename_i s1 h1
       split at he
       case h_2=>cases he
       rename_i s3 h2
       cases he
       exact zK (glob:=glob) hm hcall hc hops hlex h1 h2 (Nat.le_of_eq hnt) hst hfR hfL fun a' ρ' lam' w' e1 e2 e3 g=>⟨rfl,[],e1,e2,ρ',lam',e3,g,.nil⟩
      ·cases hs
       simp only [aA] at he
       split at he
       case h_2=>cases he
       rename_i s1 h1
       split at he
       case h_2=>cases he
       rename_i s3 h2
       cases he
       exact zK (glob:=glob) hm hcall hc hops hlex (lO rfl h1) h2 (Nat.le_of_eq hnt) hst hfR hfL fun a' ρ' lam' w' e1 e2 e3 g=>⟨rfl,[],e1,e2,ρ',lam',e3,g,.nil⟩
     ·rename_i hdraw
      have:draw=false:=by simpa using hdraw
      subst this
      cases hs
      simp only [aA] at he
      split at he
      case h_2=>cases he
      rename_i s1 h1
      cases he
      obtain ⟨hlen,hget⟩:=eF hops
      have hlv:vops.length=ops.size:=by simpa using hlen
      refine wpIn_region ?_
      rw [List.range_eq_range',←hlv]
      refine pG (glob:=glob) (nt:=nt) (lim:=lim) hcall hc vops 0 s s2 ρ lam a w (fun i vo hi => ?_) h1 (Nat.le_of_eq hnt) hst hfR hfL fun a' ρ' lam' w' e1 e2 e3 g=>⟨rfl,[],e1,e2,ρ',lam',e3,g,.nil⟩
      have hlt:=(List.getElem?_eq_some_iff.1 hi).1
      rw [hlv] at hlt
      obtain ⟨vo',q1,q2⟩:=hget i ops[i] (by simp [hlt])
      rw [hi] at q1;cases q1
      obtain ⟨a1,a2,a3,a4⟩:=gc q2
      exact ⟨ops[i],by rw [Nat.zero_add];exact Array.getElem?_eq_getElem hlt,a1,a2,a3,a4⟩
   | seq x y =>
     simp only [bG] at hs
     split at hs
     case h_2=>cases hs
     rename_i vx vy hx hy
     cases hs
     simp only [aA] at he
     refine wpIn_seq ?_
     split at he
     ·rename_i s1 h1
      obtain ⟨x1,x2⟩:=bQ hc he
      have:=dg hm hcall hc n x vx s s1 .normal ρ lam a w hx h1 hnt hst (fun b g1 g2=>hfR b g1 (by have:=x1.1;omega)) (fun b g1 g2=>hfL b g1 (by omega)) (fun t ht=>hR t (by simp [gI,ht]))
      refine wpIn_mono this ?_
      rintro e' a' w' ⟨rfl,ms,hd,hz,ρ',lam',hst',g,hm1⟩
      refine wpIn_mono (dg hm hcall hc n y vy s1 s2 e ρ' lam' a' w' hy he (by omega) hst' (g.freeR (Nat.le_refl _) fun b g1 g2=>hfR b (by have:=g.lenH;omega) g2) (g.freeL (Nat.le_refl _) fun b g1 g2=>hfL b (by have:=g.lenL;omega) g2) (fun t ht=>hR t (by simp [gI,ht]))) ?_
      intro e2 a2 w2 h2
      exact xH.trans hd hz g hst' hm1 h2
     ·rename_i hne
      have:=dg hm hcall hc n x vx s s2 e ρ lam a w hx he hnt hst hfR hfL (fun t ht=>hR t (by simp [gI,ht]))
      refine wpIn_mono this ?_
      rintro e' a' w' ⟨rfl,rest⟩
      cases e with
      | normal=>exact absurd he (hne s2)
      | exit id=>exact ⟨rfl,rest⟩
      | ret=>exact ⟨rfl,rest⟩
   | cond c x y =>
     simp only [bG] at hs
     split at hs
     case h_2=>cases hs;simp [aA] at he
     rename_i vc vx vy hvc hx hy
     cases hs
     simp only [aA] at he
     have hev:=ay hvc hst.fr
     split at he
     ·rename_i hb
      rw [hb] at hev
      exact wpIn_cond_true hev.bool (dg hm hcall hc n x vx s s2 e ρ lam a w hx he hnt hst hfR hfL (fun t ht=>hR t (by simp [gI,ht])))
     ·rename_i hb
      rw [hb] at hev
      exact wpIn_cond_false hev.bool (dg hm hcall hc n y vy s s2 e ρ lam a w hy he hnt hst hfR hfL (fun t ht=>hR t (by simp [gI,ht])))
     ·cases he
   | block id body =>
     simp only [bG,Option.map_eq_some_iff] at hs
     obtain ⟨vb,hb,rfl⟩:=hs
     simp only [aA] at he
     refine wpIn_block ?_
     split at he
     ·rename_i id' s1 h1
      split at he
      ·rename_i hid
       cases he
       refine wpIn_mono (dg hm hcall hc n body vb s s2 (.exit id') ρ lam a w hb h1 hnt hst hfR hfL hR) ?_
       rintro e' a' w' ⟨rfl,rest⟩
       simp only [uS,Exit.inBlock,hid,if_true]
       exact ⟨rfl,rest⟩
      ·rename_i hid
       cases he
       refine wpIn_mono (dg hm hcall hc n body vb s s2 (.exit id') ρ lam a w hb h1 hnt hst hfR hfL hR) ?_
       rintro e' a' w' ⟨rfl,rest⟩
       simp only [uS,Exit.inBlock,hid,if_false]
       exact ⟨rfl,rest⟩
     ·rename_i hne
      refine wpIn_mono (dg hm hcall hc n body vb s s2 e ρ lam a w hb he hnt hst hfR hfL hR) ?_
      rintro e' a' w' ⟨rfl,rest⟩
      cases e with
      | normal=>exact ⟨rfl,rest⟩
      | exit id'=>exact absurd he (hne id' s2)
      | ret=>exact ⟨rfl,rest⟩
   | loop body =>
     have hs0:=hs
     simp only [bG,Option.map_eq_some_iff] at hs
     obtain ⟨vb,hb,rfl⟩:=hs
     have key:∀(m:Nat) (s:St) (ρ:Loc) (lam:Lam) (a:Act) (w:World),m<=n+1->aA call lim m (.loop vb) s=some (e,s2)->nt=a.tmps.size->Stands ρ lam s a w->cu ρ s.H.length s2.H.length->fB lam s.L.length s2.L.length ->
      Code.roundsIn (rF r) 0 P body (xH lim e s s2 ρ lam a w) m a w:=by
      intro m
      induction m with
      | zero=>intro s ρ lam a w _ he;simp [aA] at he
      | succ m ih =>
        intro s ρ lam a w hmn he hnt hst hfR hfL
        simp only [aA] at he
        rw [roundsIn_succ]
        split at he
        ·rename_i s1 h1
         obtain ⟨x1,x2⟩:=bQ hc he
         have h1':=dg hm hcall hc m body vb s s1 .normal ρ lam a w hb h1 hnt hst (fun b g1 g2=>hfR b g1 (by have:=x1.1;omega)) (fun b g1 g2=>hfL b g1 (by omega)) hR
         refine wpIn_mono h1' ?_
         rintro e' a' w' ⟨rfl,ms,hd,hz,ρ',lam',hst',g,hm1⟩
         have:=ih s1 ρ' lam' a' w' (by omega) he (by omega) hst' (g.freeR (Nat.le_refl _) fun b g1 g2=>hfR b (by have:=g.lenH;omega) g2) (g.freeL (Nat.le_refl _) fun b g1 g2=>hfL b (by have:=g.lenL;omega) g2)
         have mono:∀(k:Nat) (a:Act) (w:World) (Q Q':Exit->Act->World->Prop),(∀e a w,Q e a w->Q' e a w)->Code.roundsIn (rF r) 0 P body Q k a w->Code.roundsIn (rF r) 0 P body Q' k a w:=by
          intro k
          induction k with
          | zero=>intro a w Q Q' _ h;exact h
          | succ k ihk =>
            intro a w Q Q' hq h
            rw [roundsIn_succ] at h ⊢
            refine wpIn_mono h fun e a w he => ?_
            cases e<;>simp only [Exit.then] at he ⊢<;>first | exact ihk a w Q Q' hq he | exact hq _ _ _ he
         exact mono m a' w' _ _ (fun e2 a2 w2 h2=>xH.trans hd hz g hst' hm1 h2) this
        ·rename_i hne
         refine wpIn_mono (dg hm hcall hc m body vb s s2 e ρ lam a w hb he hnt hst hfR hfL hR) ?_
         rintro e' a' w' ⟨rfl,rest⟩
         cases e with
         | normal=>exact absurd he (hne s2)
         | exit id=>exact ⟨rfl,rest⟩
         | ret=>exact ⟨rfl,rest⟩
     exact wpIn_loop_rounds (n+1) (key (n+1) s ρ lam a w (Nat.le_refl _) he hnt hst hfR hfL)
   | scope body =>
     simp only [bG,Option.map_eq_some_iff] at hs
     obtain ⟨vb,hb,rfl⟩:=hs
     simp only [aA] at he
     refine kX (wpIn_mono (dg hm hcall hc n body vb s s2 e ρ lam a w hb he hnt hst hfR hfL hR) ?_)
     rintro e' a' w' ⟨rfl,rest⟩
     cases e<;>exact ⟨rfl,rest⟩
   | rangeFunc g ps asg bd =>
     simp only [bG] at hs
     split at hs
     case h_2=>cases hs;simp [aA] at he
     rename_i vg f' hvg hf'
     cases hs
     obtain ⟨rfl,hrd⟩:=hR (ps,asg,bd) (by simp [gI])
     refine wpIn_mono (Fy hcall hc hvg (hrd f' hf') he hnt hst hfR) ?_
     rintro e' a' w' ⟨rfl,rfl,rfl,ρ',h1,h2,h3⟩
     exact ⟨rfl,[w.heap.size],rfl,rfl,ρ',lam,h1,h2,h3⟩
   | _=>simp [bG] at hs;subst hs;simp [aA] at he
 termination_by n=>n
end
end Go.Proofs.YtgjlhdggllakbaaGreatDoor.Vm
