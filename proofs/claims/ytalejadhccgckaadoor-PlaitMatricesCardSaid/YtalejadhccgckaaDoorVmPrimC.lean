/- plait.Parse at every text, as a given contract of the machine: what is no style is told by a panic, which the deferred function recovers. -/
import Derived.Test.YtalejadhccgckaaDoorPsU
import Derived.Test.YtalejadhccgckaaDoorVmMove
import Derived.Tactics
import Derived.Tactics2
import Derived.Defers
import Derived.Recover
import Derived.Laws.Pointers
import Derived.WalkSmall
namespace Go.Proofs.YtalejadhccgckaaDoor.Vm
open Go Go.RowKit
set_option linter.unusedVariables false
set_option linter.unusedSectionVars false
theorem start2 {ρ:Loc} {H:Hp} {w:World} (hH:RelH ρ H w) (hG:GRel ρ) (hc:chkU8 H=true):∃ρ0 H0,RelH ρ0 H0 w∧GRel ρ0∧chkU8 H0=true∧H0.length=2∧∀b,2≤b→ρ0 b=none:=by
  have hl:2≤H.length:=by
    simp only [chkU8,Bool.and_eq_true] at hc
    have h:=hc.2
    unfold rowIs at h
    split at h
    · rename_i cs own hb
      have:=(List.getElem?_eq_some_iff.1 hb).1
      omega
    · cases h
  have get:∀b,b<2→(H.take 2)[b]? = H[b]? := fun b hb=>by rw [List.getElem?_take,if_pos hb]
  have rows : ∀ b x,(H.take 2)[b]? = some x→b<2∧∃cs own,x=.row cs own∧H[b]? = some (.row cs own)∧∀i,i<cs.length→∃n,cs.getD i dv=.int .u8 n:=by
    intro b x hx
    have hb:b<2:=by
      have:=(List.getElem?_eq_some_iff.1 hx).1
      simp at this;omega
    rw [get b hb] at hx
    simp only [chkU8,Bool.and_eq_true] at hc
    have key:∀t,t.length≤10000→rowIs H b t=true→∃cs own,x=.row cs own∧H[b]? = some (.row cs own)∧∀i,i<cs.length→∃n,cs.getD i dv=.int .u8 n:=by
      intro t _ h
      unfold rowIs at h
      rw [hx] at h
      split at h
      · rename_i cs own e
        cases e
        refine ⟨cs,own,rfl,hx,fun i hi => ?_⟩
        have hlen:∀{vs:List V} {t:List Nat},u8s vs t=true→vs.length=t.length:=by
          intro vs
          induction vs with
          | nil=>intro t h;cases t<;>simp [u8s] at h ⊢
          | cons v vs ih =>
            intro t h
            cases t with
            | nil=>simp [u8s] at h
            | cons k ks =>
              have h3:u8s vs ks=true:=by
                unfold u8s at h
                split at h<;>simp_all
              simp [ih h3]
        obtain ⟨_,e⟩:=u8s_at h i (by rw [←hlen h];exact hi)
        exact ⟨_,e⟩
      · cases h
    rcases (show b=0∨b=1 by omega) with rfl | rfl
    · exact ⟨by omega,key _ (by simp [firstL]) hc.1⟩
    · exact ⟨by omega,key _ (by simp [accL]) hc.2⟩
  refine ⟨fun b=>if b<2 then ρ b else none,H.take 2,⟨fun b r o c hb => ?_,fun b r o c cs own hb hr => ?_,fun b1 b2 r o1 c1 o2 c2 cs1 cs2 own2 h1 h2 k1 k2 => ?_,⟨fun b r o c x hx hb hr => ?_,fun b1 b2 r o1 c1 o2 c2 x1 x2 hx1 hx2 h1 h2 k1 k2 => ?_⟩⟩,fun k g cs hk => ?_,?_,by simp;omega,fun b hb=>by simp;omega⟩
  · split at hb
    · exact hH.dom b r o c hb
    · cases hb
  · obtain ⟨hb2,cs',own',e,hx,hint⟩:=rows b _ hr
    cases e
    simp only [hb2,if_true] at hb
    obtain ⟨C,el,fz,q1,q2,q3,q4,q5⟩:=hH.row b r o c cs own hb hx
    refine ⟨C,el,fz,q1,q2,q3,q4,fun i hi=>⟨?_,(q5 i hi).2⟩⟩
    obtain ⟨n,e⟩:=hint i hi
    have:=(q5 i hi).1
    rw [e] at this ⊢
    generalize C.getD (o+i) ux=y at this
    cases this
    exact .int _ _
  · obtain ⟨a1,cs',own',e,hx,_⟩:=rows b1 _ k1
    obtain ⟨a2,cs2',own2',e2,hx2,_⟩:=rows b2 _ k2
    simp only [a1,a2,if_true] at h1 h2
    exact hH.inj b1 b2 r o1 c1 o2 c2 cs1 cs2 own2 h1 h2 (by rw [←get b1 a1];exact k1) (by rw [←get b2 a2];exact k2)
  · obtain ⟨_,cs',own',rfl,_,_⟩:=rows b _ hr
    cases hx
  · obtain ⟨_,cs',own',rfl,_,_⟩:=rows b1 _ k1
    cases hx1
  · have h2:k<2:=by
      have:=(List.getElem?_eq_some_iff.1 hk).1
      have e:glMap.length=2:=by kernel_rfl
      omega
    simp only [h2,if_true]
    exact hG k g cs hk
  · simp only [chkU8,Bool.and_eq_true] at hc ⊢
    have key:∀c t,c<2→rowIs H c t=true→rowIs (H.take 2) c t=true:=by
      intro c t hc h
      unfold rowIs at h ⊢
      rw [get c hc];exact h
    exact ⟨key _ _ (by decide) hc.1,key _ _ (by decide) hc.2⟩
theorem catch_idle (p q:Addr)(w:World):CallsD Tryd.prog 74 #[.pointer (some p),.pointer (some q)] .returning w fun e u' w'=>e=.returned (.tuple #[])∧u'=.returning∧w'=w:=by
  refine callsD_of_wpS Tryd.func74 rfl fun c₀ cs hu => ?_
  apply wpS_seq
  apply wpS_region
  simp [wpOpsS,go_sem,recoverD,hu,Tryd.ntmps74,Exit.thenS]
  refine wpS_cond (t:=false) (by simp [Act.eval,Array.replicate]) ?_
  simp only [Bool.false_eq_true,if_false]
  refine wpS_of_wp (wp_skip ?_)
  cases c₀
  simp_all [bodyPostS,results,Tryd.results74]
theorem catch_pan (p q:Addr)(t:TypeId)(x:Value)(w:World)(u0 u1:Value)(h0:w.cell? p=some u0)(h1:(w.setCell p (.string ⟨#[]⟩)).cell? q=some u1)(f0:w.frozen? p=false)(f1:(w.setCell p (.string ⟨#[]⟩)).frozen? q=false) :
    CallsD Tryd.prog 74 #[.pointer (some p),.pointer (some q)] (.panicking [{ v:=.iface t x,recovered:=false }]) w fun e u' w'=>e=.returned (.tuple #[])∧u'=.panicking [{ v:=.iface t x,recovered:=true }]∧w'=(w.setCell p (.string ⟨#[]⟩)).setCell q (.int .i64 3):=by
  refine callsD_of_wpS Tryd.func74 rfl fun c₀ cs hu => ?_
  apply wpS_seq
  apply wpS_region
  simp [wpOpsS,go_sem,recoverD,hu,Tryd.ntmps74,Exit.thenS]
  refine wpS_cond (t:=true) (by simp [Act.eval,Array.replicate]) ?_
  simp only [if_true]
  refine wpS_of_wp ?_
  go_wp2
  cases c₀
  simp_all [bodyPostS,results,Tryd.results74]
def fuelP (s:ByteArray):Nat:=3*s.size+10
def readP (s:ByteArray):Option (Option Rd):=itemsF (fuelP s) s 0 0 ⟨#[]⟩ 0
section
variable {ρ0:Loc}{H0:Hp}{W0 W:World}{T:TypeId}{s:ByteArray}(hH:RelH ρ0 H0 W0)(hG:GRel ρ0)(hc:chkU8 H0=true)(h2:H0.length=2)(hf:∀b,2≤b→ρ0 b=none)
    (hk:∀r,r<W0.heap.size→W.heap[r]? = W0.heap[r]?) (hg:W.heap[W0.heap.size]? = some (.cells #[.string s,.int .i64 0,.int .i64 0] T (0,0))) (hs:s.size≤4000)
include hH hG hc h2 hf hk hg hs
theorem startP:RelH (ρ0.add 2 (W0.heap.size,0,3)) (H0++[T0.pr s 0 0]) W∧GRel (ρ0.add 2 (W0.heap.size,0,3))∧VRs (ρ0.add 2 (W0.heap.size,0,3)) [.ptr 2 0] [Value.pointer (some ⟨W0.heap.size,0,none⟩)]∧(∀b,3≤b→ρ0.add 2 (W0.heap.size,0,3) b=none)∧chkU8 (H0++[T0.pr s 0 0])=true∧(H0++[T0.pr s 0 0])[2]? = some (T0.pr s 0 0):=by
  have hsz:W0.heap.size<W.heap.size:=(Array.getElem?_eq_some_iff.1 hg).1
  have hrow:RowAt ρ0 [.str s,.int .i64 0,.int .i64 0] #[.string s,.int .i64 0,.int .i64 0] 0:=by
    intro i hi
    match i,hi with
    | 0,_=>exact ⟨.str _,rfl⟩
    | 1,_=>exact ⟨.int _ _,rfl⟩
    | 2,_=>exact ⟨.int _ _,rfl⟩
  have h1:=hH.push (by rw [h2];exact hf 2 (Nat.le_refl _)) hsz hk hg (c:=3) (by simp) (by simp) hrow FzOk.zero
  rw [h2] at h1
  have hle:=Loc.add_le (x:=(W0.heap.size,0,3)) (hf 2 (Nat.le_refl _))
  have hat:(ρ0.add 2 (W0.heap.size,0,3)) 2=some (W0.heap.size,0,3):=by simp [Loc.add]
  refine ⟨h1,hG.mono hle,.cons (by simpa using VR.ptr (off:=0) hat) .nil,fun b hb => ?_,?_,?_⟩
  · unfold Loc.add;rw [if_neg (by omega)];exact hf b (by omega)
  · have:=T0.chk_set (b:=2) (x:=.dead) (X:=[T0.pr s 0 0]) hc (Nat.le_refl _)
    have e:H0.set 2 .dead=H0:=by
      apply List.ext_getElem?
      intro k
      rw [List.getElem?_set]
      split
      · rename_i e;subst e
        rw [if_neg (by omega),List.getElem?_eq_none (by omega)]
      · rfl
    rw [e] at this;exact this
  · rw [←h2];exact lastO
theorem itemsC_ok {r:Rd}(h:readP s=some (some r)):Calls Tryd.prog 75 #[.pointer (some ⟨W0.heap.size,0,none⟩)] W fun e w'=>e=.returned (.string r.w)∧w'.cell? ⟨W0.heap.size,1,none⟩=some (.int .i64 r.j) ∧
      w'.os=W.os∧w'.tape=W.tape∧w'.output=W.output∧W.heap.size≤w'.heap.size∧∀k,k<W.heap.size→k≠W0.heap.size→w'.heap[k]? = W.heap[k]? := by
  obtain ⟨g1,g2,g3,g4,g5,g6⟩:=startP hH hG hc h2 hf hk hg hs
  have hA:=(T0.all_steps (s:=s) (b:=2) (lim:=2) (Nat.le_refl _) (Nat.le_refl _) (by omega) (fuelP s)).1
  have hv:VCall T0.tbl 2 75 [.ptr 2 0] (H0++[T0.pr s 0 0]) (fun v H'=>v=.str r.w∧∃X,H'=(H0++[T0.pr s 0 0]).set 2 (T0.pr s r.j 0)++X) :=
    T0.items_call (Nat.le_refl _) (Nat.le_refl _) (by omega) hA h (Nat.zero_le _) (by omega) g5 g6 fun X=>⟨rfl,X,rfl⟩
  refine (calls_of_vcall (xs:=#[.pointer (some ⟨W0.heap.size,0,none⟩)]) T0.hmix T0.tblOk hv g1 g2 g3 (fun b hb=>g4 b (by simp [h2] at hb;omega)) (by decide)).mono ?_
  rintro e w' ⟨v,H',x,ρ',⟨rfl,X,rfl⟩,rfl,hvr,g,hR⟩
  cases hvr
  have hat:(ρ0.add 2 (W0.heap.size,0,3)) 2=some (W0.heap.size,0,3):=by simp [Loc.add]
  have hρ':ρ' 2=some (W0.heap.size,0,3):=by rw [g.extR _ (Or.inl (by simp [h2]))];exact hat
  have hrow2:((H0++[T0.pr s 0 0]).set 2 (T0.pr s r.j 0)++X)[2]? = some (T0.pr s r.j 0):=T0.hset g6
  obtain ⟨C,el,fz,c1,c2,c3,c4,c5⟩:=hR.row _ _ _ _ _ _ hρ' hrow2
  have c6:=(c5 1 (by simp)).1
  have hlt:1<C.size:=by simp at c3;omega
  have e5:C[1]? = some (C.getD 1 ux):=by rw [Array.getD_eq_getD_getElem?,Array.getElem?_eq_getElem hlt];rfl
  simp only [List.getD_cons_succ,List.getD_cons_zero,Nat.zero_add] at c6
  generalize hy:C.getD 1 ux=y at c6 e5
  cases c6
  refine ⟨rfl,by simp [World.cell?,c1,e5],g.os,g.tape,g.output,g.size,fun k hk1 hk2=>g.keep k hk1 ?_ (fun _ _=>by simp)⟩
  rintro ⟨b',o',c',hb1,⟨X,hX,hox⟩,hb2⟩
  have:b'=2:=by
    have:=(List.getElem?_eq_some_iff.1 hX).1
    simp [h2] at this;omega
  subst this
  rw [hat] at hb2;cases hb2
  exact hk2 rfl
theorem itemsC_pan (h:readP s=some none):Calls Tryd.prog 75 #[.pointer (some ⟨W0.heap.size,0,none⟩)] W fun e w'=>(∃v:TypeId×Value,e=.panicked [{ v:=.iface v.1 v.2,recovered:=false }]) ∧
      w'.os=W.os∧w'.tape=W.tape∧w'.output=W.output∧W.heap.size≤w'.heap.size∧∀k,k<W.heap.size→k≠W0.heap.size→w'.heap[k]? = W.heap[k]? := by
  obtain ⟨g1,g2,g3,g4,g5,g6⟩:=startP hH hG hc h2 hf hk hg hs
  have hA:=(T0.all_steps (s:=s) (b:=2) (lim:=2) (Nat.le_refl _) (Nat.le_refl _) (by omega) (fuelP s)).2.2.2.1
  have hp:=T0.items_pan (Nat.le_refl _) (Nat.le_refl _) (by omega) hA h (Nat.zero_le _) (by omega) g5 g6
  refine (hp.2.2 _ W #[.pointer (some ⟨W0.heap.size,0,none⟩)] g1 g2 g3 (fun b hb=>g4 b (by simp [h2] at hb;omega))).mono ?_
  rintro e w' ⟨hv,g⟩
  refine ⟨hv,g.os,g.tape,g.output,g.size,fun k hk1 hk2=>g.keep k hk1 ?_ (fun _=>by simp)⟩
  have hat:(ρ0.add 2 (W0.heap.size,0,3)) 2=some (W0.heap.size,0,3):=by simp [Loc.add]
  rintro ⟨b',o',c',hb1,⟨X,hX,hox⟩,hb2⟩
  have:b'=2:=by
    have:=(List.getElem?_eq_some_iff.1 hX).1
    simp [h2] at this;omega
  subst this
  rw [hat] at hb2;cases hb2
  exact hk2 rfl
end
section
variable {ρ0:Loc}{H0:Hp}{w:World}{s:ByteArray}(hH:RelH ρ0 H0 w)(hG:GRel ρ0)(hc:chkU8 H0=true)(h2:H0.length=2)(hf:∀b,2≤b→ρ0 b=none)(hs:s.size≤4000)
include hH hG hc h2 hf hs
theorem afterP {w':World}(i4:(((w.alloc (.cells #[Value.string ⟨#[]⟩] 9)).alloc (.cells #[Value.int .i64 0] 24)).alloc (.cells #[Value.string s,.int .i64 0,.int .i64 0] 76)).os=w.os→True)
    (j1:w'.os=(((w.alloc (.cells #[Value.string ⟨#[]⟩] 9)).alloc (.cells #[Value.int .i64 0] 24)).alloc (.cells #[Value.string s,.int .i64 0,.int .i64 0] 76)).os)
    (j2:w'.tape=(((w.alloc (.cells #[Value.string ⟨#[]⟩] 9)).alloc (.cells #[Value.int .i64 0] 24)).alloc (.cells #[Value.string s,.int .i64 0,.int .i64 0] 76)).tape)
    (j3:w'.output=(((w.alloc (.cells #[Value.string ⟨#[]⟩] 9)).alloc (.cells #[Value.int .i64 0] 24)).alloc (.cells #[Value.string s,.int .i64 0,.int .i64 0] 76)).output)
    (j5:(((w.alloc (.cells #[Value.string ⟨#[]⟩] 9)).alloc (.cells #[Value.int .i64 0] 24)).alloc (.cells #[Value.string s,.int .i64 0,.int .i64 0] 76)).heap.size≤w'.heap.size)
    (j6:∀k,k<(((w.alloc (.cells #[Value.string ⟨#[]⟩] 9)).alloc (.cells #[Value.int .i64 0] 24)).alloc (.cells #[Value.string s,.int .i64 0,.int .i64 0] 76)).heap.size→k≠w.heap.size+1+1→w'.heap[k]? = (((w.alloc (.cells #[Value.string ⟨#[]⟩] 9)).alloc (.cells #[Value.int .i64 0] 24)).alloc (.cells #[Value.string s,.int .i64 0,.int .i64 0] 76)).heap[k]?) :
    w'.heap[w.heap.size]? = some (.cells #[Value.string ⟨#[]⟩] 9 (0,0))∧w'.heap[w.heap.size+1]? = some (.cells #[Value.int .i64 0] 24 (0,0))∧Below w.heap.size w w':=by
  have hs1:((w.alloc (.cells #[Value.string ⟨#[]⟩] 9)).alloc (.cells #[Value.int .i64 0] 24)).heap.size=w.heap.size+1+1:=by simp
  have a0:(w.alloc (.cells #[Value.string ⟨#[]⟩] 9)).heap.size=w.heap.size+1:=by simp
  refine ⟨?_,?_,j1,j2,j3,?_,fun k hk => ?_⟩
  · rw [j6 _ (by simp;omega) (by omega),heap_alloc_old _ _ (by rw [hs1];omega),heap_alloc_old _ _ (by rw [a0];omega)]
    exact heap_alloc_new _ _
  · rw [j6 _ (by simp) (by omega),heap_alloc_old _ _ (by rw [hs1];omega)]
    have:=heap_alloc_new (w.alloc (.cells #[Value.string ⟨#[]⟩] 9)) (.cells #[Value.int .i64 0] 24)
    rw [a0] at this;exact this
  · refine Nat.le_trans ?_ j5
    simp;omega
  · rw [j6 _ (by simp;omega) (by omega),heap_alloc_old _ _ (by rw [hs1];omega),heap_alloc_old _ _ (by rw [a0];omega),heap_alloc_old _ _ hk]
theorem itemsD_ok {r:Rd}(h:readP s=some (some r)) :
    Calls Tryd.prog 75 #[.pointer (some ⟨w.heap.size+1+1,0,none⟩)] (((w.alloc (.cells #[Value.string ⟨#[]⟩] 9)).alloc (.cells #[Value.int .i64 0] 24)).alloc (.cells #[Value.string s,.int .i64 0,.int .i64 0] 76)) fun e w' =>
      e=.returned (.string r.w)∧w'.cell? ⟨w.heap.size+1+1,1,none⟩=some (.int .i64 r.j)∧w'.heap[w.heap.size]? = some (.cells #[Value.string ⟨#[]⟩] 9 (0,0))∧w'.heap[w.heap.size+1]? = some (.cells #[Value.int .i64 0] 24 (0,0))∧Below w.heap.size w w':=by
  have hs1:((w.alloc (.cells #[Value.string ⟨#[]⟩] 9)).alloc (.cells #[Value.int .i64 0] 24)).heap.size=w.heap.size+1+1:=by simp
  have hit:=itemsC_ok (W0:=(w.alloc (.cells #[Value.string ⟨#[]⟩] 9)).alloc (.cells #[Value.int .i64 0] 24)) (W:=((w.alloc (.cells #[Value.string ⟨#[]⟩] 9)).alloc (.cells #[Value.int .i64 0] 24)).alloc (.cells #[Value.string s,.int .i64 0,.int .i64 0] 76)) (T:=76)
    (hH.keep (by simp;omega) (fun r hr=>by rw [heap_alloc_old _ _ (by simp;omega),heap_alloc_old _ _ hr])) hG hc h2 hf (fun r hr=>heap_alloc_old _ _ hr) (heap_alloc_new _ _) hs h
  rw [hs1] at hit
  refine hit.mono ?_
  rintro e w' ⟨he,i1,j1,j2,j3,j5,j6⟩
  exact ⟨he,i1,afterP hH hG hc h2 hf hs (fun _=>trivial) j1 j2 j3 j5 j6⟩
theorem itemsD_pan (h:readP s=some none) :
    Calls Tryd.prog 75 #[.pointer (some ⟨w.heap.size+1+1,0,none⟩)] (((w.alloc (.cells #[Value.string ⟨#[]⟩] 9)).alloc (.cells #[Value.int .i64 0] 24)).alloc (.cells #[Value.string s,.int .i64 0,.int .i64 0] 76)) fun e w' =>
      (∃v:TypeId×Value,e=.panicked [{ v:=.iface v.1 v.2,recovered:=false }])∧w'.heap[w.heap.size]? = some (.cells #[Value.string ⟨#[]⟩] 9 (0,0))∧w'.heap[w.heap.size+1]? = some (.cells #[Value.int .i64 0] 24 (0,0))∧Below w.heap.size w w':=by
  have hs1:((w.alloc (.cells #[Value.string ⟨#[]⟩] 9)).alloc (.cells #[Value.int .i64 0] 24)).heap.size=w.heap.size+1+1:=by simp
  have hit:=itemsC_pan (W0:=(w.alloc (.cells #[Value.string ⟨#[]⟩] 9)).alloc (.cells #[Value.int .i64 0] 24)) (W:=((w.alloc (.cells #[Value.string ⟨#[]⟩] 9)).alloc (.cells #[Value.int .i64 0] 24)).alloc (.cells #[Value.string s,.int .i64 0,.int .i64 0] 76)) (T:=76)
    (hH.keep (by simp;omega) (fun r hr=>by rw [heap_alloc_old _ _ (by simp;omega),heap_alloc_old _ _ hr])) hG hc h2 hf (fun r hr=>heap_alloc_old _ _ hr) (heap_alloc_new _ _) hs h
  rw [hs1] at hit
  refine hit.mono ?_
  rintro e w' ⟨he,j1,j2,j3,j5,j6⟩
  exact ⟨he,afterP hH hG hc h2 hf hs (fun _=>trivial) j1 j2 j3 j5 j6⟩
end
theorem checked_ok (t:ByteArray)(w:World):Calls Tryd.prog 59 #[.string t] w fun e w'=>e=.returned (if t.size≤60 then .tuple #[.string t,.int .i64 0] else .tuple #[.string ⟨#[]⟩,.int .i64 4])∧w'=w:=by
  by_cases h:t.size≤60
  · rw [if_pos h]
    have h1:¬((t.size:Int)>60):=by omega
    go_enter Tryd.func59,Tryd.ntmps59
    go_wp2
    go_ret2
    exact ⟨rfl,rfl⟩
  · rw [if_neg h]
    have h1:((t.size:Int)>60):=by omega
    go_enter Tryd.func59,Tryd.ntmps59
    go_wp2
    go_ret2
    exact ⟨rfl,rfl⟩
set_option maxHeartbeats 1000000 in
set_option maxRecDepth 100000 in
theorem parse_large {w:World}{s:ByteArray}(hs:4000<s.size) :
    Calls Tryd.prog 52 #[.string s] w fun e w'=>e=.returned (.tuple #[.string ⟨#[]⟩,.int .i64 4])∧Below w.heap.size w w':=by
  have h1:((s.size:Int)>4000):=by omega
  go_enter_defers Tryd.func52,Tryd.ntmps52
  go_wp2
  simp [bodyPostD,Leaves,results,Tryd.results52,go_sem]
  refine ⟨rfl,rfl,rfl,by simp;omega,fun k hk => ?_⟩
  rw [heap_alloc_old _ _ (by simp;omega),heap_alloc_old _ _ hk]
set_option maxHeartbeats 1000000 in
set_option maxRecDepth 100000 in
theorem parse_okA {ρ0:Loc}{H0:Hp}{w:World}{s:ByteArray}(hH:RelH ρ0 H0 w)(hG:GRel ρ0)(hc:chkU8 H0=true)(h2:H0.length=2)(hf:∀b,2≤b→ρ0 b=none)(hs:s.size≤4000){r:Rd}(h:readP s=some (some r))(hj:¬r.j<s.size)(h6:r.w.size≤60) :
    Calls Tryd.prog 52 #[.string s] w fun e w'=>e=.returned (.tuple #[.string r.w,.int .i64 0])∧Below w.heap.size w w':=by
  have hmf:∀(fn:Fn) (first cap:Array Value) (w:World),(Instr.makeFunc fn first cap).run Tryd.prog w=.ok (.func fn first cap) w:=fun _ _ _ _=>rfl
  have hit:=itemsD_ok hH hG hc h2 hf hs h
  have chk:∀w,Calls Tryd.prog 59 #[.string r.w] w fun e w'=>e=.returned (.tuple #[.string r.w,.int .i64 0])∧w'=w:=fun w=>by
    have:=checked_ok r.w w
    rw [if_pos h6] at this
    exact this
  clear hH hG hc h2 hf h
  have h1:¬((s.size:Int)>4000):=by omega
  have h3:¬((r.j:Int)<(s.size:Int)):=by omega
  clear hs hj h6
  go_enter_defers Tryd.func52,Tryd.ntmps52
  go_wp2_with (first | (go_at_call 59;go_must (refine (chk _).mono ?_;rintro e w' ⟨rfl,rfl⟩)) | (go_at_call 75;go_must (refine hit.mono ?_;rintro e w' ⟨rfl,i1,i2,i3,i4⟩;have c0:w'.cell? ⟨w.heap.size,0,none⟩=some (.string ⟨#[]⟩):=(by simp [World.cell?,i2]);have f0:w'.frozen? ⟨w.heap.size,0,none⟩=false:=(by simp [World.frozen?,i2]);have c1:w'.cell? ⟨w.heap.size+1,0,none⟩=some (.int .i64 0):=(by simp [World.cell?,i3]);have f1:w'.frozen? ⟨w.heap.size+1,0,none⟩=false:=(by simp [World.frozen?,i3]))))
  refine leaves_cons (f:=74) (args:=#[.pointer (some ⟨w.heap.size,0,none⟩),.pointer (some ⟨w.heap.size+1,0,none⟩)]) (by simp) (by simp [go_sem]) ?_
  refine (catch_idle ⟨w.heap.size,0,none⟩ ⟨w.heap.size+1,0,none⟩ _).mono ?_
  rintro e u' w'' ⟨rfl,rfl,rfl⟩
  have d0:((w'.setCell ⟨w.heap.size,0,none⟩ (.string r.w)).setCell ⟨w.heap.size,0,none⟩ (.string r.w)).cell? ⟨w.heap.size,0,none⟩=some (.string r.w):=World.cell?_setCell_same _ _ _ (World.cell?_setCell_same _ _ _ c0)
  have d1:(((w'.setCell ⟨w.heap.size,0,none⟩ (.string r.w)).setCell ⟨w.heap.size,0,none⟩ (.string r.w)).setCell ⟨w.heap.size+1,0,none⟩ (.int .i64 0)).cell? ⟨w.heap.size+1,0,none⟩=some (.int .i64 0):=by
    refine World.cell?_setCell_same _ _ _ (u:=.int .i64 0) ?_
    rw [World.cell?_setCell_other _ _ _ _ (by simp),World.cell?_setCell_other _ _ _ _ (by simp)];exact c1
  simp [Leaves,settle,results,Tryd.results52,go_sem,d0,d1]
  exact ((i4.setCell (p:=⟨w.heap.size,0,none⟩) (Nat.le_refl _) _).setCell (p:=⟨w.heap.size,0,none⟩) (Nat.le_refl _) _).setCell (p:=⟨w.heap.size+1,0,none⟩) (Nat.le_succ _) _
set_option maxHeartbeats 1000000 in
set_option maxRecDepth 100000 in
theorem parse_okB {ρ0:Loc}{H0:Hp}{w:World}{s:ByteArray}(hH:RelH ρ0 H0 w)(hG:GRel ρ0)(hc:chkU8 H0=true)(h2:H0.length=2)(hf:∀b,2≤b→ρ0 b=none)(hs:s.size≤4000){r:Rd}(h:readP s=some (some r))(hj:¬r.j<s.size)(h6:¬r.w.size≤60) :
    Calls Tryd.prog 52 #[.string s] w fun e w'=>e=.returned (.tuple #[.string ⟨#[]⟩,.int .i64 4])∧Below w.heap.size w w':=by
  have hmf:∀(fn:Fn) (first cap:Array Value) (w:World),(Instr.makeFunc fn first cap).run Tryd.prog w=.ok (.func fn first cap) w:=fun _ _ _ _=>rfl
  have hit:=itemsD_ok hH hG hc h2 hf hs h
  have chk:∀w,Calls Tryd.prog 59 #[.string r.w] w fun e w'=>e=.returned (.tuple #[.string ⟨#[]⟩,.int .i64 4])∧w'=w:=fun w=>by
    have:=checked_ok r.w w
    rw [if_neg h6] at this
    exact this
  clear hH hG hc h2 hf h
  have h1:¬((s.size:Int)>4000):=by omega
  have h3:¬((r.j:Int)<(s.size:Int)):=by omega
  clear hs hj h6
  go_enter_defers Tryd.func52,Tryd.ntmps52
  go_wp2_with (first | (go_at_call 59;go_must (refine (chk _).mono ?_;rintro e w' ⟨rfl,rfl⟩)) | (go_at_call 75;go_must (refine hit.mono ?_;rintro e w' ⟨rfl,i1,i2,i3,i4⟩;have c0:w'.cell? ⟨w.heap.size,0,none⟩=some (.string ⟨#[]⟩):=(by simp [World.cell?,i2]);have f0:w'.frozen? ⟨w.heap.size,0,none⟩=false:=(by simp [World.frozen?,i2]);have c1:w'.cell? ⟨w.heap.size+1,0,none⟩=some (.int .i64 0):=(by simp [World.cell?,i3]);have f1:w'.frozen? ⟨w.heap.size+1,0,none⟩=false:=(by simp [World.frozen?,i3]))))
  refine leaves_cons (f:=74) (args:=#[.pointer (some ⟨w.heap.size,0,none⟩),.pointer (some ⟨w.heap.size+1,0,none⟩)]) (by simp) (by simp [go_sem]) ?_
  refine (catch_idle ⟨w.heap.size,0,none⟩ ⟨w.heap.size+1,0,none⟩ _).mono ?_
  rintro e u' w'' ⟨rfl,rfl,rfl⟩
  have d0:((w'.setCell ⟨w.heap.size,0,none⟩ (.string r.w)).setCell ⟨w.heap.size,0,none⟩ (.string ⟨#[]⟩)).cell? ⟨w.heap.size,0,none⟩=some (.string ⟨#[]⟩):=World.cell?_setCell_same _ _ _ (World.cell?_setCell_same _ _ _ c0)
  have d1:(((w'.setCell ⟨w.heap.size,0,none⟩ (.string r.w)).setCell ⟨w.heap.size,0,none⟩ (.string ⟨#[]⟩)).setCell ⟨w.heap.size+1,0,none⟩ (.int .i64 4)).cell? ⟨w.heap.size+1,0,none⟩=some (.int .i64 4):=by
    refine World.cell?_setCell_same _ _ _ (u:=.int .i64 0) ?_
    rw [World.cell?_setCell_other _ _ _ _ (by simp),World.cell?_setCell_other _ _ _ _ (by simp)];exact c1
  simp [Leaves,settle,results,Tryd.results52,go_sem,d0,d1]
  exact ((i4.setCell (p:=⟨w.heap.size,0,none⟩) (Nat.le_refl _) _).setCell (p:=⟨w.heap.size,0,none⟩) (Nat.le_refl _) _).setCell (p:=⟨w.heap.size+1,0,none⟩) (Nat.le_succ _) _
set_option maxHeartbeats 1000000 in
set_option maxRecDepth 100000 in
theorem parse_tail {ρ0:Loc}{H0:Hp}{w:World}{s:ByteArray}(hH:RelH ρ0 H0 w)(hG:GRel ρ0)(hc:chkU8 H0=true)(h2:H0.length=2)(hf:∀b,2≤b→ρ0 b=none)(hs:s.size≤4000){r:Rd}(h:readP s=some (some r))(hj:r.j<s.size) :
    Calls Tryd.prog 52 #[.string s] w fun e w'=>e=.returned (.tuple #[.string ⟨#[]⟩,.int .i64 3])∧Below w.heap.size w w':=by
  have hmf:∀(fn:Fn) (first cap:Array Value) (w:World),(Instr.makeFunc fn first cap).run Tryd.prog w=.ok (.func fn first cap) w:=fun _ _ _ _=>rfl
  have hit:=itemsD_ok hH hG hc h2 hf hs h
  clear hH hG hc h2 hf h
  have h1:¬((s.size:Int)>4000):=by omega
  have h3:((r.j:Int)<(s.size:Int)):=by omega
  clear hs hj
  go_enter_defers Tryd.func52,Tryd.ntmps52
  go_wp2_with ((go_at_call 75;go_must (refine hit.mono ?_;rintro e w' ⟨rfl,i1,i2,i3,i4⟩;have c0:w'.cell? ⟨w.heap.size,0,none⟩=some (.string ⟨#[]⟩):=(by simp [World.cell?,i2]);have f0:w'.frozen? ⟨w.heap.size,0,none⟩=false:=(by simp [World.frozen?,i2]);have c1:w'.cell? ⟨w.heap.size+1,0,none⟩=some (.int .i64 0):=(by simp [World.cell?,i3]);have f1:w'.frozen? ⟨w.heap.size+1,0,none⟩=false:=(by simp [World.frozen?,i3]))))
  refine leaves_cons (f:=74) (args:=#[.pointer (some ⟨w.heap.size,0,none⟩),.pointer (some ⟨w.heap.size+1,0,none⟩)]) (by simp) (by simp [go_sem]) ?_
  have b0:(w'.setCell ⟨w.heap.size,0,none⟩ (.string r.w)).cell? ⟨w.heap.size,0,none⟩=some (.string r.w):=World.cell?_setCell_same _ _ _ c0
  have b1:(w'.setCell ⟨w.heap.size,0,none⟩ (.string r.w)).cell? ⟨w.heap.size+1,0,none⟩=some (.int .i64 0):=by
    rw [World.cell?_setCell_other _ _ _ _ (by simp)];exact c1
  have k0:(w'.setCell ⟨w.heap.size,0,none⟩ (.string r.w)).frozen? ⟨w.heap.size,0,none⟩=false:=by simpa using f0
  have k1:(w'.setCell ⟨w.heap.size,0,none⟩ (.string r.w)).frozen? ⟨w.heap.size+1,0,none⟩=false:=by simpa using f1
  have e1:((w'.setCell ⟨w.heap.size,0,none⟩ (.string r.w)).setCell ⟨w.heap.size,0,none⟩ (.string ⟨#[]⟩)).cell? ⟨w.heap.size+1,0,none⟩=some (.int .i64 0):=by
    rw [World.cell?_setCell_other _ _ _ _ (by simp)];exact b1
  have g1:((w'.setCell ⟨w.heap.size,0,none⟩ (.string r.w)).setCell ⟨w.heap.size,0,none⟩ (.string ⟨#[]⟩)).frozen? ⟨w.heap.size+1,0,none⟩=false:=by
    simpa using k1
  refine (catch_pan ⟨w.heap.size,0,none⟩ ⟨w.heap.size+1,0,none⟩ 79 (.agg #[]) (w'.setCell ⟨w.heap.size,0,none⟩ (.string r.w)) _ _ b0 e1 k0 g1).mono ?_
  rintro e u' w'' ⟨rfl,rfl,rfl⟩
  have d0:((w'.setCell ⟨w.heap.size,0,none⟩ (.string r.w)).setCell ⟨w.heap.size,0,none⟩ (.string ⟨#[]⟩)).cell? ⟨w.heap.size,0,none⟩=some (.string ⟨#[]⟩):=World.cell?_setCell_same _ _ _ b0
  have d1:(((w'.setCell ⟨w.heap.size,0,none⟩ (.string r.w)).setCell ⟨w.heap.size,0,none⟩ (.string ⟨#[]⟩)).setCell ⟨w.heap.size+1,0,none⟩ (.int .i64 3)).cell? ⟨w.heap.size+1,0,none⟩=some (.int .i64 3):=World.cell?_setCell_same _ _ _ e1
  simp [Leaves,settle,results,Tryd.results52,go_sem,d0,d1]
  exact ((i4.setCell (p:=⟨w.heap.size,0,none⟩) (Nat.le_refl _) _).setCell (p:=⟨w.heap.size,0,none⟩) (Nat.le_refl _) _).setCell (p:=⟨w.heap.size+1,0,none⟩) (Nat.le_succ _) _
set_option maxHeartbeats 1000000 in
set_option maxRecDepth 100000 in
theorem parse_bad {ρ0:Loc}{H0:Hp}{w:World}{s:ByteArray}(hH:RelH ρ0 H0 w)(hG:GRel ρ0)(hc:chkU8 H0=true)(h2:H0.length=2)(hf:∀b,2≤b→ρ0 b=none)(hs:s.size≤4000)(h:readP s=some none) :
    Calls Tryd.prog 52 #[.string s] w fun e w'=>e=.returned (.tuple #[.string ⟨#[]⟩,.int .i64 3])∧Below w.heap.size w w':=by
  have hmf:∀(fn:Fn) (first cap:Array Value) (w:World),(Instr.makeFunc fn first cap).run Tryd.prog w=.ok (.func fn first cap) w:=fun _ _ _ _=>rfl
  have hit:=itemsD_pan hH hG hc h2 hf hs h
  clear hH hG hc h2 hf h
  have h1:¬((s.size:Int)>4000):=by omega
  clear hs
  go_enter_defers Tryd.func52,Tryd.ntmps52
  go_wp2_with (go_at_call 75;go_must (refine hit.mono ?_;rintro e w' ⟨⟨⟨tv,xv⟩,rfl⟩,i2,i3,i4⟩;have c0:w'.cell? ⟨w.heap.size,0,none⟩=some (.string ⟨#[]⟩):=(by simp [World.cell?,i2]);have f0:w'.frozen? ⟨w.heap.size,0,none⟩=false:=(by simp [World.frozen?,i2]);have c1:w'.cell? ⟨w.heap.size+1,0,none⟩=some (.int .i64 0):=(by simp [World.cell?,i3]);have f1:w'.frozen? ⟨w.heap.size+1,0,none⟩=false:=(by simp [World.frozen?,i3])))
  refine leaves_cons (f:=74) (args:=#[.pointer (some ⟨w.heap.size,0,none⟩),.pointer (some ⟨w.heap.size+1,0,none⟩)]) (by simp) (by simp [go_sem]) ?_
  have b0:=c0
  have b1:=c1
  have k0:=f0
  have k1:=f1
  have e1:((w').setCell ⟨w.heap.size,0,none⟩ (.string ⟨#[]⟩)).cell? ⟨w.heap.size+1,0,none⟩=some (.int .i64 0):=by
    rw [World.cell?_setCell_other _ _ _ _ (by simp)];exact b1
  have g1:((w').setCell ⟨w.heap.size,0,none⟩ (.string ⟨#[]⟩)).frozen? ⟨w.heap.size+1,0,none⟩=false:=by
    simpa using k1
  refine (catch_pan ⟨w.heap.size,0,none⟩ ⟨w.heap.size+1,0,none⟩ tv xv (w') _ _ b0 e1 k0 g1).mono ?_
  rintro e u' w'' ⟨rfl,rfl,rfl⟩
  have d0:((w').setCell ⟨w.heap.size,0,none⟩ (.string ⟨#[]⟩)).cell? ⟨w.heap.size,0,none⟩=some (.string ⟨#[]⟩):=World.cell?_setCell_same _ _ _ b0
  have d1:(((w').setCell ⟨w.heap.size,0,none⟩ (.string ⟨#[]⟩)).setCell ⟨w.heap.size+1,0,none⟩ (.int .i64 3)).cell? ⟨w.heap.size+1,0,none⟩=some (.int .i64 3):=World.cell?_setCell_same _ _ _ e1
  simp [Leaves,settle,results,Tryd.results52,go_sem,d0,d1]
  exact (i4.setCell (p:=⟨w.heap.size,0,none⟩) (Nat.le_refl _) _).setCell (p:=⟨w.heap.size+1,0,none⟩) (Nat.le_succ _) _
def parseP (s:ByteArray):Option (ByteArray×Int) :=
  if s.size≤4000 then match readP s with
    | some (some r)=>if r.j<s.size then some (⟨#[]⟩,3) else if r.w.size≤60 then some (r.w,0) else some (⟨#[]⟩,4)
    | some none=>some (⟨#[]⟩,3)
    | none=>none
  else some (⟨#[]⟩,4)
theorem parse_all {ρ:Loc} {H:Hp} {w:World} {s t:ByteArray} {e:Int} (hH:RelH ρ H w) (hG:GRel ρ) (hc:chkU8 H=true) (h:parseP s=some (t,e)) :
    Calls Tryd.prog 52 #[.string s] w fun e' w'=>e'=.returned (.tuple #[.string t,.int .i64 e])∧Below w.heap.size w w':=by
  obtain ⟨ρ0,H0,g1,g2,g3,g4,g5⟩:=start2 hH hG hc
  unfold parseP at h
  split at h
  · rename_i hs
    split at h
    · rename_i r hr
      split at h
      · rename_i hj;cases h;exact parse_tail g1 g2 g3 g4 g5 hs hr hj
      · rename_i hj
        split at h
        · rename_i h6;cases h;exact parse_okA g1 g2 g3 g4 g5 hs hr hj h6
        · rename_i h6;cases h;exact parse_okB g1 g2 g3 g4 g5 hs hr hj h6
    · rename_i hr;cases h;exact parse_bad g1 g2 g3 g4 g5 hs hr
    · cases h
  · rename_i hs;cases h;exact parse_large (by omega)
def gParse:List V→Option V
  | [.str s]=>match parseP s with
    | some (t,e)=>some (.tup [.str t,.int .i64 e])
    | none=>none
  | _=>none
def pParse:PrimF:=flatP chkU8 gParse
theorem pok_Parse:PrimOk Tryd.prog 52 pParse:=by
  refine primOk_flat (by kernel_rfl) fun args H v ρ w xs hfl hg hc hH hG hx => ?_
  unfold gParse at hg
  split at hg
  case h_2=>cases hg
  rename_i s
  split at hg
  case h_2=>cases hg
  rename_i t e hp
  cases hg
  have e1:=hx.1
  have e2:=hx.2 0 (by simp)
  obtain ⟨xs⟩:=xs
  match xs,e1,e2 with
  | [a],_,e2 =>
    simp at e2
    cases e2
    exact (parse_all hH hG hc hp).mono fun e w' hh=>⟨_,hh.1,.tup rfl (fun i hi=>by
      match i,hi with
      | 0,_=>exact .str _
      | 1,_=>exact .int _ _),hh.2⟩
def vf52:VFn:=⟨1,[],.prim pParse⟩
theorem pok52:PrimOk Tryd.prog 52 pParse:=pok_Parse
end Go.Proofs.YtalejadhccgckaaDoor.Vm
