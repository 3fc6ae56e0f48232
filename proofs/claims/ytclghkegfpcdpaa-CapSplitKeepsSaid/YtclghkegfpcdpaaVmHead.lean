/- One operation of a drawn head, and the whole head. -/
import Derived.Test.YtclghkegfpcdpaaVmInv
namespace Go.Proofs.Ytclghkegfpcdpaa.Vm
open Go
set_option linter.unusedVariables false
set_option linter.unusedSimpArgs false
section
variable {P:Program}{call:CallFn}{glob:List Nat}{nt:Nat}{ops:Array Oper}{head:List VOper}{σ:Nat→St}{acc:Nat→List (Nat×Nat)}{hp:Nat→HpAcc}{val:Nat→V}{lim:Nat}
variable {ρ0:Loc}{lam0:Lam}{w0:World}{ρ ρ':Loc}{lam lam':Lam}{a:Act}{w w':World}{listed:Array Bool}
theorem lis_set {k i:Nat}(hk:k<listed.size):lis (listed.setIfInBounds k true) i=if i=k then true else lis listed i:=by
  unfold lis
  by_cases e:i=k
  · subst e;simp [hk]
  · rw [if_neg e,getD_set_ne false (fun h=>e h.symm)]
structure HStep (lim:Nat)(head:List VOper)(σ:Nat→St)(S S':Nat→Bool)(ρ0:Loc)(lam0:Lam)(w0:World)(k c':Nat)(ρ:Loc)(lam:Lam)(w:World)(ρ':Loc)(lam':Lam)(w':World):Prop where
  cut:c'≤head.length
  cutS:∀i,i<head.length→hst head σ i→(S' i=true↔i<c')
  cutT:∀i,i<head.length→touches head σ i→c'≤i→hst head σ i
  H:RelH ρ' (σ c').H w'
  leR:∀b x,ρ b=some x→ρ' b=some x
  extR:∀b,b<(σ k).H.length∨(σ (k+1)).H.length≤b→ρ' b=ρ b
  newR:∀b r o c,(σ k).H.length≤b→b<(σ (k+1)).H.length→ρ' b=some (r,o,c)→w.heap.size≤r
  keep:∀r,r<w.heap.size→(∀b o c,lim≤b→OwnAt (σ k).H b→ρ b≠some (r,o,c))→(∀i,acts head σ k i→lam i≠some r)→w'.heap[r]? = w.heap[r]?
inductive HCase (lim:Nat)(head:List VOper)(σ:Nat→St)(S:Nat→Bool)(k c:Nat):Hp→Hp→Nat→Prop
  | free:¬touches head σ k→HCase lim head σ S k c (σ c).H (σ c).H (σ c).H.length
  | look:touches head σ k→¬hst head σ k→k<c→(∀i,i<c→¬hst head σ i)→HCase lim head σ S k c (σ k).H (σ (k+1)).H (σ k).H.length
  | store:hst head σ k→c≤k→(σ k).H=(σ c).H→(∀i,i<k→hst head σ i→S i=true)→HCase lim head σ S k c (σ k).H (σ (k+1)).H lim
theorem hcase_of (hc:CallExt call) (R:Run call lim head σ acc hp val) (G:RegOk P glob nt ops head) (inv:HeadInv .any ops head.length listed) {c:Nat}
    (I:Inv lim head σ val ρ0 lam0 w0 (lis listed) c ρ lam a w) {k:Nat} (hkm:k<head.length) (hk:k∈Region.ready .any ops listed) :
    ∃H1 H2 l,HCase lim head σ (lis listed) k c H1 H2 l∧RelH ρ H1 w∧FreeR ρ H1.length H2.length∧∀vo,head[k]? = some vo→evVal call l vo ⟨(σ k).fr,(σ k).L,H1⟩=some (val k,(σ (k+1)).L,H2):=by
  have hun:=ready_un hk
  by_cases ht:touches head σ k
  · by_cases hs:hst head σ k
    · have hck:c≤k:=by
        have:=I.cutS k hkm hs
        rw [hun] at this
        simp at this;exact this
      have hS:∀i,i<k→touches head σ i→lis listed i=true:=fun i hi hti=>ready_dep hk (touch_wait R G hi hkm hti hs)
      have hH:(σ k).H=(σ c).H:=by
        refine run_same R hck (by omega) fun j h1 h2 htj => ?_
        have hsj:=I.cutT j (by omega) htj h1
        have:=(I.cutS j (by omega) hsj).1 (hS j h2 htj)
        omega
      refine ⟨_,_,_,.store hs hck hH fun i hi hsi=>hS i hi (hst_touches hsi),by rw [hH];exact I.H,I.freeR k hkm hun,fun vo hvo => ?_⟩
      obtain ⟨vo',g1,_,g3⟩:=hs
      rw [hvo] at g1;cases g1
      have:=(R.step k vo hvo).1
      rw [headLim_hst g3] at this
      exact this
    · have hkc:k<c:=by
        rcases Nat.lt_or_ge k c with h | h
        · exact h
        · exact absurd (I.cutT k hkm ht h) hs
      have hno:∀i,i<c→¬hst head σ i:=by
        intro i hic hsi
        have hcm:=I.cut
        have hSi:=(I.cutS i (by omega) hsi).2 hic
        rcases Nat.lt_trichotomy i k with h | h | h
        · exact hs (touch_last R h hkm hsi ht)
        · subst h;exact hs hsi
        · rw [late_un inv hun (touch_wait R G h (by omega) ht hsi)] at hSi;cases hSi
      have hH:=run_H hc R (i:=k) (j:=c) (by omega) I.cut (fun i _ h2=>hno i h2)
      refine ⟨_,_,_,.look ht hs hkc hno,⟨I.H.dom,fun b r o c' cs own hb hrow => ?_,fun b1 b2 r o1 c1 o2 c2 cs1 cs2 own2 h1 h2 hr1 hr2 => ?_,I.H.mp.of (fun b es hx hb=>by rw [←hH.2 b (List.getElem?_eq_some_iff.1 hb).1] at hb;exact hb) (fun _ _ _ _=>rfl) (fun _ _ h=>h) fun _ _ _ _ _ _ _ _ _=>rfl⟩,I.freeR k hkm hun,fun vo hvo => ?_⟩
      · rw [←hH.2 b (List.getElem?_eq_some_iff.1 hrow).1] at hrow
        exact I.H.row b r o c' cs own hb hrow
      · rw [←hH.2 b1 (List.getElem?_eq_some_iff.1 hr1).1] at hr1
        rw [←hH.2 b2 (List.getElem?_eq_some_iff.1 hr2).1] at hr2
        exact I.H.inj b1 b2 r o1 c1 o2 c2 cs1 cs2 own2 h1 h2 hr1 hr2
      · have:=(R.step k vo hvo).1
        have hh:hstore (σ k).fr vo.op=false:=by
          obtain ⟨vo',g1,g2,_⟩:=ht
          rw [hvo] at g1;cases g1
          cases hq:hstore (σ k).fr vo.op with
          | false=>rfl
          | true=>exact absurd ⟨vo,hvo,g2,hq⟩ hs
        rw [headLim_not hh] at this
        exact this
  · exact ⟨_,_,_,.free ht,I.H,fun b h1 h2=>absurd h2 (by omega),fun vo hvo=>run_free_at R hvo ht⟩
theorem hstep_of (hc:CallExt call) (R:Run call lim head σ acc hp val) (G:RegOk P glob nt ops head) (inv:HeadInv .any ops head.length listed) {c:Nat}
    (I:Inv lim head σ val ρ0 lam0 w0 (lis listed) c ρ lam a w) {k:Nat} (hkm:k<head.length) (hk:k∈Region.ready .any ops listed) (hset:∀i,lis (listed.setIfInBounds k true) i=if i=k then true else lis listed i)
    {H1 H2:Hp} {l:Nat} (hcase:HCase lim head σ (lis listed) k c H1 H2 l) (g:Grow l (acts head σ k) ρ lam (σ k).L H1 w ρ' lam' (σ (k+1)).L H2 w') (r1:RelH ρ' H2 w') :
    ∃c',HStep lim head σ (lis listed) (lis (listed.setIfInBounds k true)) ρ0 lam0 w0 k c' ρ lam w ρ' lam' w':=by
  have hun:=ready_un hk
  have hcm:=I.cut
  cases hcase with
  | free ht =>
    have hH:=run_free R hkm ht
    have hx:∀b,ρ' b=ρ b:=fun b=>g.extR b (by omega)
    refine ⟨c,I.cut,fun i hi hs => ?_,I.cutT,r1,fun b x h=>by rw [hx];exact h,fun b _=>hx b,fun b r o c' h1 h2 => ?_,fun r hr _ ht'=>g.keep r hr noOpen ht'⟩
    · have:i≠k:=fun e=>ht (by rw [←e];exact hst_touches hs)
      rw [hset,if_neg this];exact I.cutS i hi hs
    · rw [hH] at h2;omega
  | look ht hs hkc hno =>
    have fR:=I.freeR k hkm hun
    have leR:=g.leR fR
    have hHk:=g.lenH
    have newRk:∀b r o c,(σ k).H.length≤b→b<(σ (k+1)).H.length→ρ' b=some (r,o,c)→w.heap.size≤r:=fun b r o c h1 h2 h3=>(g.newR b r o c h1 h2 h3).resolve_right noOpen
    have keepO:∀r,r<w.heap.size→(∀i,acts head σ k i→lam i≠some r)→w'.heap[r]? = w.heap[r]? := fun r hr ht=>g.keep r hr noOpen ht
    have memk:∀r b o c',ρ b=some (r,o,c')→∀i,acts head σ k i→lam i≠some r:=fun r b o c' hb i _ hi=>I.disj i r b o c' hi hb
    obtain ⟨hH1,hH2⟩:=run_H hc R (i:=k+1) (j:=c) (by omega) I.cut (fun i _ h2=>hno i h2)
    refine ⟨c,I.cut,fun i hi hsi => ?_,I.cutT,⟨r1.dom,?_,?_,⟨?_,?_⟩⟩,leR,g.extR,newRk,fun r hr _ ht'=>keepO r hr ht'⟩
    · have:i≠k:=fun e=>hs (by rw [←e];exact hsi)
      rw [hset,if_neg this];exact I.cutS i hi hsi
    ·
      intro b r o c2 cs own hb hrow
      by_cases hlt:b<(σ (k+1)).H.length
      · rw [hH2 b hlt] at hrow
        exact r1.row b r o c2 cs own hb hrow
      · rw [g.extR b (Or.inr (by omega))] at hb
        obtain ⟨C,el,fz,h1,h2,h3,h4,h5⟩:=I.H.row b r o c2 cs own hb hrow
        exact ⟨C,el,fz,by rw [keepO r (I.H.dom b r o c2 hb) (memk r b o c2 hb)];exact h1,h2,h3,h4,h5.mono leR⟩
    ·
      intro b1 b2 r o1 c1 o2 c2 cs1 cs2 own2 h1 h2 hr1 hr2
      by_cases n1:(σ k).H.length≤b1∧b1<(σ (k+1)).H.length<;>by_cases n2:(σ k).H.length≤b2∧b2<(σ (k+1)).H.length
      · rw [hH2 b1 n1.2] at hr1
        rw [hH2 b2 n2.2] at hr2
        exact r1.inj b1 b2 r o1 c1 o2 c2 cs1 cs2 own2 h1 h2 hr1 hr2
      · rw [g.extR b2 (by omega)] at h2
        have:=newRk b1 r o1 c1 n1.1 n1.2 h1
        have:=I.H.dom b2 r o2 c2 h2
        omega
      · rw [g.extR b1 (by omega)] at h1
        have:=newRk b2 r o2 c2 n2.1 n2.2 h2
        have:=I.H.dom b1 r o1 c1 h1
        omega
      · rw [g.extR b1 (by omega)] at h1
        rw [g.extR b2 (by omega)] at h2
        exact I.H.inj b1 b2 r o1 c1 o2 c2 cs1 cs2 own2 h1 h2 hr1 hr2
    ·
      intro b r o c2 es hx hb hrow
      by_cases hlt:b<(σ (k+1)).H.length
      · rw [hH2 b hlt] at hrow
        exact r1.mp.ent b r o c2 es hx hb hrow
      · rw [g.extR b (Or.inr (by omega))] at hb
        obtain ⟨ob,h1,h2⟩:=I.H.mp.ent b r o c2 es hx hb hrow
        exact ⟨ob,by rw [keepO r (I.H.dom b r o c2 hb) (memk r b o c2 hb)];exact h1,h2.mono leR⟩
    · intro b1 b2 r o1 c1 o2 c2 es1 es2 hx1 hx2 h1 h2 hr1 hr2
      by_cases n1:(σ k).H.length≤b1∧b1<(σ (k+1)).H.length<;>by_cases n2:(σ k).H.length≤b2∧b2<(σ (k+1)).H.length
      · rw [hH2 b1 n1.2] at hr1
        rw [hH2 b2 n2.2] at hr2
        exact r1.mp.inj b1 b2 r o1 c1 o2 c2 es1 es2 hx1 hx2 h1 h2 hr1 hr2
      · rw [g.extR b2 (by omega)] at h2
        have:=newRk b1 r o1 c1 n1.1 n1.2 h1
        have:=I.H.dom b2 r o2 c2 h2
        omega
      · rw [g.extR b1 (by omega)] at h1
        have:=newRk b2 r o2 c2 n2.1 n2.2 h2
        have:=I.H.dom b1 r o1 c1 h1
        omega
      · rw [g.extR b1 (by omega)] at h1
        rw [g.extR b2 (by omega)] at h2
        exact I.H.mp.inj b1 b2 r o1 c1 o2 c2 es1 es2 hx1 hx2 h1 h2 hr1 hr2
  | store hs hck hH hS =>
    have hlen:=(run_hst R hs).1
    refine ⟨k+1,by omega,fun i hi hsi => ?_,fun i hi hti h=>I.cutT i hi hti (by omega),r1,fun b x h => ?_,g.extR,fun b r o c' h1 h2=>absurd h2 (by omega),fun r hr hno ht'=>g.keep r hr (fun ⟨b,o,c',h1,h2,h3⟩=>hno b o c' h1 h2 h3) ht'⟩
    · rw [hset]
      rcases Nat.lt_trichotomy i k with h | h | h
      · rw [if_neg (by omega),hS i h hsi];simp;omega
      · rw [if_pos h];simp;omega
      · rw [if_neg (by omega),I.cutS i hi hsi];omega
    · rw [g.extR b (by omega)];exact h
theorem inv_step (hc:CallExt call) (R:Run call lim head σ acc hp val) (G:RegOk P glob nt ops head) (hx:Lex ops) (inv:HeadInv .any ops head.length listed) {c:Nat}
    (I:Inv lim head σ val ρ0 lam0 w0 (lis listed) c ρ lam a w) {k:Nat} (hkm:k<head.length) (hk:k∈Region.ready .any ops listed) {o:Oper} {vo:VOper} (ho:ops[k]? = some o) (hvo:head[k]? = some vo)
    (hsl:slimOp P glob o=some vo.op) (hdst:vo.dst=o.dst) (hd:∀d,o.dst=some d→d<a.tmps.size)
    (hg:(match o.guard with | none=>vo.guard=none | some (j,want)=>∃s,(ops[j]?).bind (·.dst)=some s∧vo.guard=some (s,want)))
    {x:Value} (hv:FV ρ' lam' (val k) x) {H1 H2:Hp} {l:Nat} (hcase:HCase lim head σ (lis listed) k c H1 H2 l) (g:Grow l (acts head σ k) ρ lam (σ k).L H1 w ρ' lam' (σ (k+1)).L H2 w') (r1:RelH ρ' H2 w')
    (r2:RelL (fun i=>acts head σ k i∨(σ k).L.length≤i) ρ' lam' (σ (k+1)).L w') :
    ∃c',Inv lim head σ val ρ0 lam0 w0 (lis (listed.setIfInBounds k true)) c' ρ' lam' (a.put o.dst x) w':=by
  have hun:=ready_un hk
  have hklt:k<listed.size:=by rw [inv.size];exact (Array.getElem?_eq_some_iff.1 ho).1
  have hset:∀i,lis (listed.setIfInBounds k true) i=if i=k then true else lis listed i:=fun i=>lis_set hklt
  have hne:∀i,i≠k→lis (listed.setIfInBounds k true) i=lis listed i:=fun i h=>by rw [hset,if_neg h]
  have hself:lis (listed.setIfInBounds k true) k=true:=by rw [hset,if_pos rfl]
  obtain ⟨c',h⟩:=hstep_of (hp:=hp) hc R G inv I hkm hk hset hcase g r1
  refine ⟨c',?_⟩
  have fL:=I.freeL k hkm hun
  have leR:=h.leR
  have leL:=g.leL fL
  have hK1:=run_Hle hc R (i:=k) (j:=head.length) (by omega) (Nat.le_refl _)
  have hJ1:=run_Hle hc R (i:=k+1) (j:=head.length) (by omega) (Nat.le_refl _)
  have hZ1:=run_Hle hc R (i:=0) (j:=k) (by omega) (by omega)
  have hHk:=run_Hle hc R (i:=k) (j:=k+1) (by omega) (by omega)
  have hLk:=g.lenL
  have hLm:=run_L hc R (i:=k+1) (j:=head.length) (by omega) (Nat.le_refl _)
  have hL0:=run_L hc R (i:=0) (j:=k) (by omega) (by omega)
  have keepL:∀id r,lam id=some r→(∀i,acts head σ k i→lam i≠some r)→w'.heap[r]? = w.heap[r]? := fun id r hl ht=>h.keep r (I.dom id r hl) (fun b o c _ _ hb=>I.disj id r b o c hl hb) ht
  have memk:∀{id},acts head σ k id→∃r,lam id=some r:=by
    intro id ⟨vo',h1,h2,h3⟩
    rw [hvo] at h1;cases h1
    refine memId_lam (P:=P) (glob:=glob) (ρ:=ρ) (fr:=lw (σ 0).fr (dstAt head) val (lis listed) head.length) (a:=a) hsl I.fr ?_
    rw [(evVal_congr (call:=call) (lim:=0) (L:=[]) (H:=[]) (vo:=vo) (fun t ht=>fr_ready R G hx inv hkm hk ho t ((slot_looks hsl hg).1 t ht)) (fun s want hs=>fr_ready R G hx inv hkm hk ho s ((slot_looks hsl hg).2 s want hs))).2.2.1]
    exact h3
  refine ⟨?_,h.H,h.cut,h.cutS,h.cutT,r2.dom,r2.inj,r2.disj,?_,?_,?_,?_,g.os.trans I.os,g.tape.trans I.tape,g.output.trans I.output,Nat.le_trans I.size g.size,?_,?_,?_,?_,?_⟩
  ·
    have e:lw (σ 0).fr (dstAt head) val (lis (listed.setIfInBounds k true)) head.length=putD (lw (σ 0).fr (dstAt head) val (lis listed) head.length) o.dst (val k):=by
      funext t
      rw [lw_put (S:=lis listed) hkm hself hne (fun i h1 h2 hs t hdk hdi => ?_),dstAt_of hvo,hdst]
      obtain ⟨oi,g1,_,g3,_⟩:=G.get i head[i] (List.getElem?_eq_getElem h2)
      rw [dstAt_of (List.getElem?_eq_getElem h2),g3] at hdi
      rw [dstAt_of hvo,hdst] at hdk
      rcases hx.pair k i o oi h1 ho g1 with h4 | h4
      · rw [late_un inv hun h4] at hs;cases hs
      · exact (Oper.apart_spec h4).2.1 t hdk hdi
    rw [e]
    exact (I.fr.mono leR leL).put hv hd
  ·
    intro id r cs hr hcs
    rw [mw_put (S:=lis listed) hkm hself hne (fun hw i h1 h2 hs => ?_)] at hcs
    · split at hcs
      · rename_i hw
        refine r2.row id r cs ?_ hr hcs
        rcases wrt_iff.1 hw with h | h
        · exact Or.inl (stores_acts h)
        · exact Or.inr h.1
      · rename_i hw
        have hnw:¬(stores head σ k id∨((σ k).L.length≤id∧id<(σ (k+1)).L.length)):=fun h=>hw (wrt_iff.2 h)
        have hl : lam id=some r:=by
          rw [← g.extL id (by
            by_cases h:id<(σ k).L.length
            · exact Or.inl h
            · exact Or.inr (by
                by_cases h2:id<(σ (k+1)).L.length
                · exact absurd (Or.inr ⟨by omega,h2⟩) hnw
                · omega))];exact hr
        by_cases hact:acts head σ k id
        · rw [mw_ready hc R G inv I hkm hk hact hl] at hcs
          refine r2.row id r cs (Or.inl hact) hr ?_
          obtain ⟨_,_,e3⟩:=run_ext hc R hkm
          rw [e3 id (acts_lt R hact) (fun h=>hnw (Or.inl h))];exact hcs
        · refine ((I.row id r cs hl hcs).mono leR).keep (keepL id r hl fun i hi hlr => ?_)
          exact hact (by rw [←I.inj i id r hlr hl];exact hi)
    · cases hwi:wrt head σ i id with
      | false=>rfl
      | true =>
        exfalso
        have hLi:=run_L hc R (i:=k+1) (j:=i) (by omega) (by omega)
        rcases wrt_iff.1 hwi with hsi | ⟨g1,g2⟩
        · rcases wrt_iff.1 hw with hsk | ⟨g1,g2⟩
          · have:=late_un inv hun (conflict R G h1 h2 (stores_acts hsk) (stores_acts hsi) (Or.inl hsk))
            rw [hs] at this;cases this
          · obtain ⟨r',hr'⟩:=I.acc i id h2 hs (stores_acts hsi)
            have:=fL id g1 g2
            rw [this] at hr';cases hr'
        · rcases wrt_iff.1 hw with hsk | ⟨k1,k2⟩
          · have:=acts_lt R (stores_acts hsk)
            omega
          · omega
  · intro i him hl b h1 h2
    by_cases e:i=k
    · subst e;rw [hself] at hl;cases hl
    · rw [hne i e] at hl
      rw [h.extR b ?_]
      · exact I.freeR i him hl b h1 h2
      · by_cases hlt:i<k
        · have:=run_Hle hc R (i:=i+1) (j:=k) (by omega) (by omega);omega
        · have:=run_Hle hc R (i:=k+1) (j:=i) (by omega) (by omega);omega
  · intro i him hl b h1 h2
    by_cases e:i=k
    · subst e;rw [hself] at hl;cases hl
    · rw [hne i e] at hl
      rw [g.extL b ?_]
      · exact I.freeL i him hl b h1 h2
      · by_cases hlt:i<k
        · have:=run_L hc R (i:=i+1) (j:=k) (by omega) (by omega);omega
        · have:=run_L hc R (i:=k+1) (j:=i) (by omega) (by omega);omega
  · intro i id him hl hact
    by_cases e:i=k
    · subst e
      obtain ⟨r,hr⟩:=memk hact
      exact ⟨r,leL _ _ hr⟩
    · rw [hne i e] at hl
      obtain ⟨r,hr⟩:=I.acc i id him hl hact
      exact ⟨r,leL _ _ hr⟩
  · intro b hb
    rw [h.extR b (by omega)];exact I.extR b hb
  · intro i hi
    rw [g.extL i (by omega)];exact I.extL i hi
  · intro b r o c h1 h2 hb
    by_cases n:(σ k).H.length≤b∧b<(σ (k+1)).H.length
    · exact Nat.le_trans I.size (h.newR b r o c n.1 n.2 hb)
    · rw [h.extR b (by omega)] at hb
      exact I.newR b r o c h1 h2 hb
  · intro i r h1 h2 hi
    by_cases n:(σ k).L.length≤i∧i<(σ (k+1)).L.length
    · exact Nat.le_trans I.size (g.newL i r n.1 n.2 hi)
    · rw [g.extL i (by omega)] at hi
      exact I.newL i r h1 h2 hi
  · intro r hr ho hno
    rw [←I.keep r hr ho hno]
    refine h.keep r (Nat.lt_of_lt_of_le hr I.size) (fun b o c hl hown hb => ?_) fun i _ hi => ?_
    · have hbk:b<(σ k).H.length:=by obtain ⟨cs,hcs⟩:=hown;exact (List.getElem?_eq_some_iff.1 hcs.1).1
      by_cases hb0:b<(σ 0).H.length
      · exact ho ⟨b,o,c,hl,run_own hc R (Nat.zero_le k) (by omega) b hb0 hown,by rw [←I.extR b (Or.inl hb0)];exact hb⟩
      · have:=I.newR b r o c (by omega) (by omega) hb;omega
    · by_cases h1:i<(σ 0).L.length∨(σ head.length).L.length≤i
      · rw [I.extL i h1] at hi;exact hno i hi
      · have:=I.newL i r (by omega) (by omega) hi;omega
theorem first_of (p:Nat→Prop):∀(m:Nat),∃c,c≤m∧(∀k,k<c→¬p k)∧(c<m→p c)
  | 0=>⟨0,Nat.le_refl _,fun k h=>absurd h (by omega),fun h=>absurd h (by omega)⟩
  | m + 1=>by
    obtain ⟨c,h1,h2,h3⟩:=first_of p m
    by_cases e:c<m
    · exact ⟨c,by omega,h2,fun _=>h3 e⟩
    · have:c=m:=by omega
      subst this
      by_cases hp:p c
      · exact ⟨c,by omega,h2,fun _=>hp⟩
      · refine ⟨c+1,Nat.le_refl _,fun k hk => ?_,fun h=>absurd h (by omega)⟩
        by_cases e':k=c
        · subst e';exact hp
        · exact h2 k (by omega)
theorem inv_start (hc:CallExt call)(R:Run call lim head σ acc hp val){s:St}(h0:σ 0=s)(hst0:Stands ρ0 lam0 s a w)(hfR:FreeR ρ0 s.H.length (σ head.length).H.length)(hfL:FreeL lam0 s.L.length (σ head.length).L.length){S:Nat→Bool}
    (hS:∀i,S i=false):∃c,Inv lim head σ val ρ0 lam0 w S c ρ0 lam0 a w:=by
  have hlw:∀m,lw (σ 0).fr (dstAt head) val S m=(σ 0).fr:=by
    intro m
    induction m with
    | zero=>rfl
    | succ m ih=>simp [lw,hS,ih]
  have hmw:∀m id,mw (fun i=>(σ i).L) (wrt head σ) S m id=(σ 0).L[id]? := by
    intro m id
    induction m with
    | zero=>rfl
    | succ m ih=>simp [mw,hS,ih]
  obtain ⟨c,hcm,hno,hfst⟩:=first_of (hst head σ) head.length
  obtain ⟨hH1,hH2⟩:=run_H hc R (i:=0) (j:=c) (by omega) hcm (fun k _ h=>hno k h)
  have hH3:=run_Hle hc R (i:=c) (j:=head.length) hcm (Nat.le_refl _)
  subst h0
  have lt:∀b r o c' cs own,ρ0 b=some (r,o,c')→(σ c).H[b]? = some (Blk.row cs own)→b<(σ 0).H.length:=by
    intro b r o c' cs own hb hrow
    by_cases h:b<(σ 0).H.length
    · exact h
    · have hlt:=(List.getElem?_eq_some_iff.1 hrow).1
      rw [hfR b (by omega) (by omega)] at hb;cases hb
  have ltM:∀(b r o c':Nat) (es:Blk),ρ0 b=some (r,o,c')→(σ c).H[b]? = some es→b<(σ 0).H.length:=by
    intro b r o c' es hb hrow
    by_cases h:b<(σ 0).H.length
    · exact h
    · have hlt:=(List.getElem?_eq_some_iff.1 hrow).1
      rw [hfR b (by omega) (by omega)] at hb;cases hb
  refine ⟨c,by rw [hlw];exact hst0.fr,⟨hst0.H.dom,fun b r o c' cs own hb hrow => ?_,fun b1 b2 r o1 c1 o2 c2 cs1 cs2 own2 h1 h2 hr1 hr2 => ?_,
    ⟨fun b r o c' es hx hb hrow=>hst0.H.mp.ent b r o c' es hx hb (by rw [hH2 b (ltM _ _ _ _ _ hb hrow)] at hrow;exact hrow),fun b1 b2 r o1 c1 o2 c2 e1 e2 hx1 hx2 h1 h2 hr1 hr2=>hst0.H.mp.inj b1 b2 r o1 c1 o2 c2 e1 e2 hx1 hx2 h1 h2 (by rw [hH2 b1 (ltM _ _ _ _ _ h1 hr1)] at hr1;exact hr1) (by rw [hH2 b2 (ltM _ _ _ _ _ h2 hr2)] at hr2;exact hr2)⟩⟩,hcm,fun k hk hs => ?_,fun k hk ht hck => ?_,hst0.L.dom,hst0.L.inj,hst0.L.disj,fun id r cs hr hcs => ?_,fun i hi _ b h1 h2 => ?_,fun i hi _ b h1 h2 => ?_,
    fun i id _ hl => ?_,rfl,rfl,rfl,Nat.le_refl _,fun _ _=>rfl,fun _ _=>rfl,fun b r o c h1 h2 hb => ?_,fun i r h1 h2 hi => ?_,fun _ _ _ _=>rfl⟩
  · rw [hH2 b (lt _ _ _ _ _ _ hb hrow)] at hrow
    exact hst0.H.row b r o c' cs own hb hrow
  · rw [hH2 b1 (lt _ _ _ _ _ _ h1 hr1)] at hr1
    rw [hH2 b2 (lt _ _ _ _ _ _ h2 hr2)] at hr2
    exact hst0.H.inj b1 b2 r o1 c1 o2 c2 cs1 cs2 own2 h1 h2 hr1 hr2
  · rw [hS]
    constructor
    · intro h;cases h
    · intro h;exact absurd hs (hno k h)
  · by_cases e:c=k
    · subst e;exact hfst hk
    · exact touch_last R (by omega) hk (hfst (by omega)) ht
  · rw [hmw] at hcs
    exact hst0.L.row id r cs trivial hr hcs
  · have q1:=run_Hle hc R (i:=0) (j:=i) (by omega) (by omega)
    have q2:=run_Hle hc R (i:=i+1) (j:=head.length) (by omega) (Nat.le_refl _)
    exact hfR b (by omega) (by omega)
  · have q1:=run_L hc R (i:=0) (j:=i) (by omega) (by omega)
    have q2:=run_L hc R (i:=i+1) (j:=head.length) (by omega) (Nat.le_refl _)
    exact hfL b (by omega) (by omega)
  · rw [hS i] at hl;cases hl
  · rw [hfR b h1 h2] at hb;cases hb
  · rw [hfL i h1 h2] at hi;cases hi
theorem inv_end (hc:CallExt call)(R:Run call lim head σ acc hp val){c:Nat}(I:Inv lim head σ val ρ0 lam0 w0 (lis listed) c ρ lam a w)(hall:∀i,i<head.length→lis listed i=true) :
    Stands ρ lam (σ head.length) a w∧Grow lim (fun _=>True) ρ0 lam0 (σ 0).L (σ 0).H w0 ρ lam (σ head.length).L (σ head.length).H w:=by
  have hH1:=run_Hle hc R (i:=0) (j:=head.length) (by omega) (Nat.le_refl _)
  have hL:=run_L hc R (i:=0) (j:=head.length) (by omega) (Nat.le_refl _)
  have hH:(σ head.length).H=(σ c).H:=run_same R I.cut (Nat.le_refl _) fun k h1 h2 ht=>by
    have hs:=I.cutT k h2 ht h1
    have:=(I.cutS k h2 hs).1 (hall k h2)
    omega
  refine ⟨⟨?_,by rw [hH];exact I.H,I.dom,I.inj,I.disj,fun id r cs _ hr hcs=>I.row id r cs hr ?_⟩,I.os,I.tape,I.output,I.size,hH1,hL,I.extR,I.extL,fun b r o c h1 h2 h3=>Or.inl (I.newR b r o c h1 h2 h3),I.newL,
    fun r hr ho ht=>I.keep r hr ho fun i=>ht i trivial,fun b hb ho=>run_own hc R (Nat.zero_le _) (Nat.le_refl _) b hb ho⟩
  · have:(σ head.length).fr=lw (σ 0).fr (dstAt head) val (lis listed) head.length:=by
      rw [fr_lw R (Nat.le_refl _)]
      funext t
      exact lw_agree fun i hi _=>(hall i hi).symm
    rw [this];exact I.fr
  · rw [←hcs,L_mw hc R (Nat.le_refl _) id]
    exact mw_agree fun i hi _=>hall i hi
end
end Go.Proofs.Ytclghkegfpcdpaa.Vm
