/- Operation by operation, the second part: memory that is made or written. -/
import Derived.Test.YtgjlhdggllakbaaGreatDoorVmOps
set_option linter.unusedVariables false
set_option linter.unusedSimpArgs false
set_option linter.unusedSectionVars false
namespace Go.Proofs.YtgjlhdggllakbaaGreatDoor.Vm
open Go
section
variable {P:Program}{lim:Nat}{tg A:Nat->Prop}{ρ:Loc}{lam:Lam}{L L':Lo}{H H':Hp}{w:World}{s:Sem Next}{fr:Fr}{a:Act}
theorem oX (off:Nat):∀(xs:List Value) (k:Nat) (C:Array Value),off+k+xs.length<=C.size ->
 ((xs.zipIdx k).foldl (fun cs (p:Value×Nat)=>cs.setIfInBounds (off+p.2) p.1) C).toList=C.toList.take (off+k)++xs++C.toList.drop (off+k+xs.length)
 | [],k,C,_=>by simp
 | x :: xs,k,C,h=>by
   have ih:=oX off xs (k+1) (C.setIfInBounds (off+k) x) (by simp at h ⊢;omega)
   have e:=list_seg_step C.toList (off+k) x xs (by simp at h ⊢;omega)
   simp only [List.zipIdx_cons,List.foldl_cons]
   rw [ih]
   simpa [Array.toList_setIfInBounds,Nat.add_assoc] using e
theorem Ay {cs xs:List V}{C ys:List Value}(h:VRs ρ cs C)(k:VRs ρ xs ys)(off:Nat):VRs ρ (al cs off xs) (C.take off++ys++C.drop (off+ys.length)):=by
 unfold al
 rw [←k.1]
 exact ((h.take off).append k).append (h.drop _)
theorem nX {cs xs:List V}(h:bB cs)(k:bB xs)(off:Nat):bB (al cs off xs):=((h.take off).append k).append (h.drop _)
theorem eW {cs xs:List V}{off:Nat}(h:off+xs.length<=cs.length):(al cs off xs).length=cs.length:=by
 simp [al];omega
inductive PartsRel (place:Nat->Option (Nat×Nat)):List (Nat×Operand)->List (Nat×Nat×Opd)->Prop
 | nil:PartsRel place [] []
 | cons {i x o sz y ps vps}:place i=some (o,sz)->az x=some y->PartsRel place ps vps->PartsRel place ((i,x) :: ps) ((o,sz,y) :: vps)
theorem xD {place:Nat→Option (Nat×Nat)} (hF:FRel ρ lam fr a.tmps):∀{ps:List (Nat×Operand)} {vps:List (Nat×Nat×Opd)},PartsRel place ps vps →
 ∀{cs cs':List V} {C:Array Value},VRs ρ cs C.toList->bB cs->j6 cs (lZ fr vps)=some cs' ->
 ∃C',Instr.fill place C (ps.map fun p=>(p.1,a.eval p.2))=some C'/\VRs ρ cs' C'.toList/\bB cs'/\cs'.length=cs.length:=by
 intro ps vps hp
 induction hp with
 | nil=>intro cs cs' C h1 h2 h3;simp [lZ,j6] at h3;subst h3;exact ⟨C,rfl,h1,h2,rfl⟩
 | @cons i x o sz y ps vps hpl hx _ ih =>
   intro cs cs' C h1 h2 h3
   simp only [lZ,j6] at h3
   split at h3
   ·rename_i hst
    split at h3
    ·rename_i hlen
     split at h3
     ·rename_i hle
      obtain ⟨k1,k2⟩:=((ay hx hF).stor hst).cells hst
      have hsz:(a.eval x).cells.size=sz:=by have:=k1.1;simp at this;omega
      have hC:C.size=cs.length:=by have:=h1.1;simp at this;omega
      have hfold:((a.eval x).cells.zipIdx.foldl (fun cs (p:Value×Nat)=>cs.setIfInBounds (o+p.2) p.1) C).toList=C.toList.take o++(a.eval x).cells.toList++C.toList.drop (o+(a.eval x).cells.toList.length):=by
       rw [←Array.foldl_toList,Array.toList_zipIdx]
       have:=oX o (a.eval x).cells.toList 0 C (by simp;omega)
       simpa using this
      have hv:=Ay h1 k1 o
      rw [←hfold] at hv
      obtain ⟨C',g1,g2,g3,g4⟩:=ih hv (nX h2 k2 o) h3
      refine ⟨C',?_,g2,g3,by rw [g4,eW (by omega)]⟩
      simp only [List.map_cons,Instr.fill,hpl]
      rw [if_neg (by simp;omega)]
      exact g1
     ·cases h3
    ·cases h3
   ·cases h3
theorem lF {sz:Nat}:∀{ps:List (Nat×Operand)} {vps:List (Nat×Nat×Opd)},jA sz ps=some vps->PartsRel (fun i=>some (i*sz,sz)) ps vps
 | [],vps,h=>by simp [jA] at h;subst h;exact .nil
 | (i,x) :: ps,vps,h=>by
   unfold jA at h
   split at h
   ·rename_i y qs h1 h2
    cases h
    exact .cons rfl h1 (lF h2)
   ·cases h
theorem qb {fields:Array Field} {places:List (Nat×Nat)} (hpl:fields.toList.mapM (fun f=>(P.info? f.type).map fun i=>(f.offset,i.size))=some places) :
 ∀{ps:List (Nat×Operand)} {vps:List (Nat×Nat×Opd)},kl P fields ps=some vps->PartsRel (places.toArray[·]?) ps vps
 | [],vps,h=>by simp [kl] at h;subst h;exact .nil
 | (i, x) :: ps,vps,h=>by
   unfold kl at h
   split at h
   ·rename_i f y qs h1 h2 h3
    split at h
    ·rename_i sz hs
     cases h
     refine .cons ?_ h2 (qb hpl h3)
     have hplace:∀(fs:List Field) (pl:List (Nat×Nat)) (i:Nat) (f:Field),fs.mapM (fun f=>(P.info? f.type).map fun i=>(f.offset,i.size))=some pl->fs[i]? = some f ->
      pl[i]? = (P.info? f.type).map fun i=>(f.offset,i.size):=by
      intro fs
      induction fs with
      | nil=>intro pl i f _ hf;simp at hf
      | cons g gs ih =>
        intro pl i f hm hf
        simp only [List.mapM_cons,Option.bind_eq_bind,Option.bind_eq_some_iff,Option.pure_def] at hm
        obtain ⟨q,hq,r,hr,he⟩:=hm
        cases he
        cases i with
        | zero=>simp at hf;subst hf;simp [hq]
        | succ i=>simp at hf;simpa using ih r i f hr hf
     have:=hplace fields.toList places i f hpl (by simpa using h1)
     simp only [List.getElem?_toArray,this]
     unfold dl at hs
     cases hi:P.info? f.type with
     | none=>simp [hi] at hs
     | some ii=>simp [hi] at hs ⊢;exact hs
    ·cases h
   ·cases h
theorem oB {α β:Type}(f:α->Option β):∀(l:List α),(∀x∈l,(f x).isSome=true)->∃r,l.mapM f=some r
 | [],_=>⟨[],by simp⟩
 | x :: xs,h=>by
   obtain ⟨r,hr⟩:=oB f xs fun y hy=>h y (by simp [hy])
   obtain ⟨b,hb⟩:=Option.isSome_iff_exists.1 (h x (by simp))
   exact ⟨b :: r,by simp [List.mapM_cons,hb,hr]⟩
theorem gR {t:TypeId}{z:List V}(h:jM P t=some z):∃i zv,P.info? t=some i/\i.zero=some zv/\VRs ρ z zv.cells.toList/\bB z:=by
 unfold jM at h
 split at h
 ·rename_i i hi
  split at h
  ·rename_i zv hz
   exact ⟨i,zv,hi,hz,rO h,nj h⟩
  ·cases h
 ·cases h
theorem pP (t:TypeId)(v:Value):(newVar t v).run P w=.ok ⟨w.heap.size,0,none⟩ (w.alloc (.cells v.cells t)):=by
 simp [newVar,newRow]
theorem C6 {b r c:Nat}:VR (ρ.add b (r,0,c)) (.ptr b 0) (.pointer (some ⟨r,0,none⟩)):=by
 have:=VR.ptr (off:=0) (ρ:=ρ.add b (r,0,c)) (b:=b) (r:=r) (o:=0) (c:=c) (by simp [Loc.add])
 simpa using this
theorem mR (w:World)(C:Array Value)(el:TypeId)(fz:Nat×Nat):w.heap.size<(w.alloc (.cells C el fz)).heap.size/\(∀r,r<w.heap.size->(w.alloc (.cells C el fz)).heap[r]? = w.heap[r]?)/\(w.alloc (.cells C el fz)).heap[w.heap.size]? = some (.cells C el fz) :=
 ⟨by simp,fun r hr=>heap_alloc_old w _ r hr,heap_alloc_new w _⟩
theorem fJ {b r c len cap sz:Nat}(h1:len<=cap)(h2:cap*sz<=c):VR (ρ.add b (r,0,c)) (.sl b 0 len sz) (.slice (some ⟨r,0,none⟩) len cap):=by
 have:=VR.sl (off:=0) (ρ:=ρ.add b (r,0,c)) (b:=b) (r:=r) (o:=0) (c:=c) (sz:=sz) (by simp [Loc.add]) h1 (by omega)
 simpa using this
theorem OZ {loc:Bool}{z:List V}{t:TypeId}(hz:jM P t=some z)(hs:∀w:World,s.run P w=((Instr.alloc t true (.tuple #[])).run P w).andThen fun v w=>.ok (.value v) w)
 (hH:RelH ρ H w) (hL:RelL A ρ lam L w) {v:V} (he:ax lim fr L H (.new loc z)=some (.val v L' H')) (hfR:cu ρ H.length H'.length) (hfL:fB lam L.length L'.length) :
 aV P lim tg A ρ lam L H w s v L' H':=by
 obtain ⟨i,zv,hi,hz',k1,k2⟩:=gR (ρ:=ρ) hz
 obtain ⟨f1,f2,f3,f4⟩:=cM w zv.cells t
 have hrun:s.run P w=.ok (.value (.pointer (some ⟨w.heap.size,0,none⟩))) (w.alloc (.cells zv.cells t)):=by
  rw [hs];simp [Instr.alloc,zeroValue,typeInfo,hi,hz',pP]
 have hlen:zv.cells.size=z.length:=by have:=k1.1;simp at this;omega
 simp only [ax] at he
 split at he
 ·cases he
  exact aV.pushL hH hL (by simpa using hfL) hrun ⟨f1,rfl,rfl⟩ f2 f3 f4 hlen (ck.of_VRs k1 k2) rfl
 ·cases he
  exact aV.pushH (c:=z.length) hH hL (by simpa using hfR) hrun ⟨f1,rfl,rfl⟩ f2 f3 f4 (by omega) (Nat.le_refl _) (ck.of_VRs k1 k2) C6
theorem M9 {loc:Bool}{X:Operand}{x:Opd}{t:TypeId}(hx:az X=some x)(hs:s.run P w=((Instr.box t (a.eval X)).run P w).andThen fun v w=>.ok (.value v) w)
 (hF:FRel ρ lam fr a.tmps) (hH:RelH ρ H w) (hL:RelL A ρ lam L w) {v:V} (he:ax lim fr L H (.box loc x)=some (.val v L' H')) (hfR:cu ρ H.length H'.length) (hfL:fB lam L.length L'.length) :
 aV P lim tg A ρ lam L H w s v L' H':=by
 simp only [ax] at he
 split at he
 case isFalse=>cases he
 rename_i hst
 obtain ⟨k1,k2⟩:=((ay hx hF).stor hst).cells hst
 obtain ⟨f1,f2,f3,f4⟩:=cM w (a.eval X).cells t
 have hrun:s.run P w=.ok (.value (.pointer (some ⟨w.heap.size,0,none⟩))) (w.alloc (.cells (a.eval X).cells t)):=by
  rw [hs];simp [Instr.box,pP]
 have hlen:(a.eval X).cells.size=(aJ (opd fr x)).length:=by have:=k1.1;simp at this;omega
 split at he
 ·cases he
  exact aV.pushL hH hL (by simpa using hfL) hrun ⟨f1,rfl,rfl⟩ f2 f3 f4 hlen (ck.of_VRs k1 k2) rfl
 ·cases he
  exact aV.pushH (c:=(aJ (opd fr x)).length) hH hL (by simpa using hfR) hrun ⟨f1,rfl,rfl⟩ f2 f3 f4 (by omega) (Nat.le_refl _) (ck.of_VRs k1 k2) C6
theorem Ag {cs:List V}{C:Array Value}(h:VRs ρ cs C.toList)(hs:bB cs):VR ρ (.agg cs) (.agg C) :=
 .agg (by simpa using h.1) (fun i hi=>by simpa [List.getD_eq_getElem?_getD,Array.getD_eq_getD_getElem?] using h.2 i hi) hs
theorem tM (parts:Array (Nat×Operand))(f:Operand->Value):(parts.map fun (i,x)=>(i,f x)).toList=parts.toList.map fun p=>(p.1,f p.2):=by
 simp
theorem Fo {o:Oper} {t:TypeId} {parts:Array (Nat×Operand)} {vo:VOp} (ho:o.op=.build t parts) {glob:List Nat} (hsl:aq P glob o=some vo)
 (hF:FRel ρ lam fr a.tmps) (hH:RelH ρ H w) (hL:RelL A ρ lam L w) {v:V} (he:ax lim fr L H vo=some (.val v L' H')) :
 aV P lim tg A ρ lam L H w (execOp a.eval o) v L' H':=by
 have key:∀(place:Nat->Option (Nat×Nat)) (z:List V) (zv:Value) (vps:List (Nat×Nat×Opd)),VRs ρ z zv.cells.toList->bB z->PartsRel place parts.toList vps ->
  vo=.build z vps->(∀C,Instr.fill place zv.cells (parts.toList.map fun p=>(p.1,a.eval p.2))=some C->P.built t (parts.toList.map fun p=>(p.1,a.eval p.2))=some C) ->
  aV P lim tg A ρ lam L H w (execOp a.eval o) v L' H':=by
  intro place z zv vps k1 k2 hp hvo hb
  subst hvo
  simp only [ax] at he
  split at he
  ·rename_i cs hcs
   cases he
   obtain ⟨C,h1,h2,h3,_⟩:=xD hF hp k1 k2 hcs
   have hbuilt:=hb C h1
   have hrun:=run_build (P:=P) w t (parts.map fun (i,x)=>(i,a.eval x)) C (by rw [tM];exact hbuilt)
   exact aV.pure (x:=.agg C) (by simp only [execOp,ho,Sem.run_bind,hrun,Result.andThen_ok,Sem.run_pure]) (.vr (Ag h2 h3)) hH hL
  ·cases he
 simp only [aq,ho] at hsl
 split at hsl
 ·rename_i fields z hu hz
  obtain ⟨i,zv,hi,hz',k1,k2⟩:=gR (ρ:=ρ) hz
  split at hsl
  ·rename_i hall
   simp only [Option.map_eq_some_iff] at hsl
   obtain ⟨vps,hvps,rfl⟩:=hsl
   obtain ⟨places,hpl⟩:=oB (fun f:Field=>(P.info? f.type).map fun i=>(f.offset,i.size)) fields.toList (fun f hf=>by
    have:=Array.all_eq_true_iff_forall_mem.1 hall f (by simpa using hf)
    simpa [dl] using this)
   refine key (places.toArray[·]?) z zv vps k1 k2 (qb hpl hvps) rfl (fun C hC => ?_)
   simp only [Program.built,hi,hu,hz',hpl];exact hC
  ·cases hsl
 ·rename_i n e z hu hz
  obtain ⟨i,zv,hi,hz',k1,k2⟩:=gR (ρ:=ρ) hz
  split at hsl
  ·rename_i sz hsz
   simp only [Option.map_eq_some_iff] at hsl
   obtain ⟨vps,hvps,rfl⟩:=hsl
   simp only [dl,Option.map_eq_some_iff] at hsz
   obtain ⟨ie,hie,rfl⟩:=hsz
   refine key _ z zv vps k1 k2 (lF hvps) rfl (fun C hC => ?_)
   simp only [Program.built,hi,hu,hz',hie];exact hC
  ·cases hsl
 ·cases hsl
end
end Go.Proofs.YtgjlhdggllakbaaGreatDoor.Vm
