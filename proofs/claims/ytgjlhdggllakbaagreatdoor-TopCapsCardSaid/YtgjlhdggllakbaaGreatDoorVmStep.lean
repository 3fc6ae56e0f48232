/- One operation of a region, with its guard, or a call: the machine's step and the model's. -/
import Derived.Test.YtgjlhdggllakbaaGreatDoorVmOps6
import Derived.Orders
set_option linter.unusedVariables false
set_option linter.unusedSimpArgs false
set_option linter.unusedSectionVars false
namespace Go.Proofs.YtgjlhdggllakbaaGreatDoor.Vm
open Go
def cJ (lim:Nat)(H H':Hp):Prop:=H.length<=H'.length/\∀b,b<H.length->b<lim->H'[b]? = H[b]?
theorem cJ.refl {lim:Nat}{H:Hp}:cJ lim H H:=⟨Nat.le_refl _,fun _ _ _=>rfl⟩
theorem cJ.trans {lim:Nat}{H H' H'':Hp}(h:cJ lim H H')(k:cJ lim H' H''):cJ lim H H'' :=
 ⟨Nat.le_trans h.1 k.1,fun b hb hl=>(k.2 b (Nat.lt_of_lt_of_le hb h.1) hl).trans (h.2 b hb hl)⟩
theorem cJ.app {lim:Nat}{H:Hp}(bs:List Blk):cJ lim H (H++bs):=⟨by simp,fun b hb _=>List.getElem?_append_left hb⟩
theorem cJ.push {lim:Nat}{H:Hp}(x:Blk):cJ lim H (H++[x]):=⟨by simp,fun b hb _=>List.getElem?_append_left hb⟩
def bw (call:b8):Prop:=∀lim f args H v H',call lim f args H=some (v,H')->cJ lim H H'
section
variable {lim:Nat}{fr fr':Fr}{L L':Lo}{H H':Hp}{v:V}{op:VOp}
theorem iy {b off:Nat}{xs:List V}(h:bW lim H b off xs=some H'):cJ lim H H'/\H'.length=H.length:=by
 unfold bW at h
 split at h
 case isFalse=>cases h
 rename_i hl
 split at h
 case h_2=>cases h
 split at h
 case isFalse=>cases h
 cases h
 refine ⟨⟨by simp,fun b' hb' hl' => ?_⟩,by simp⟩
 rw [List.getElem?_set_ne (by omega)]
def target (fr:Fr):VOp→Option Nat
 | .store _ a _=>match opd fr a with
   | .lp id _=>some id
   | _=>none
 | _=>none
theorem Bm {id:Nat}(h:target fr op=some id):aG fr op=some id:=by
 cases op<;>simp only [target] at h<;>try (cases h;done)
 simp only [aG]
 split at h
 ·rename_i e;rw [e];exact h
 ·cases h
theorem xj {sz bytes:Nat}{x y:V}{v:V}(aL:aP lim sz bytes H x y=some (v,H')):cJ lim H H':=by
 unfold aP at aL
 split at aL
 case h_2=>cases aL
 split at aL
 ·split at aL
  ·cases aL;exact .refl
  ·split at aL
   case isFalse=>cases aL
   split at aL
   case isFalse=>cases aL
   cases aL;exact .push _
 ·split at aL
  case isFalse=>cases aL
  rename_i hc
  split at aL
  case h_2=>cases aL
  split at aL
  case isFalse=>cases aL
  split at aL
  case isFalse=>cases aL
  split at aL
  case isFalse=>cases aL
  cases aL
  refine ⟨by simp,fun b' hb' hl' => ?_⟩
  rw [List.getElem?_append_left (by simpa using hb'),List.getElem?_set_ne (by omega)]
 ·split at aL
  ·cases aL;exact .refl
  ·split at aL
   case isFalse=>cases aL
   split at aL
   case isFalse=>cases aL
   cases aL;exact .push _
 ·cases aL
theorem dN {r:Option V}{v:V}(h:da H r=some (v,H')):r=some v/\H'=H:=by
 cases r with
 | none=>simp [da] at h
 | some u=>simp [da] at h;exact ⟨by rw [h.1],h.2.symm⟩
theorem FY {g:Bool}{ks:List CK}{x k u:V}(h:gF lim g ks H x k u=some H'):cJ lim H H':=by
 unfold gF at h
 split at h
 case h_2=>cases h
 split at h
 case isFalse=>cases h
 rename_i hl
 split at h
 case h_2=>cases h
 split at h
 case isFalse=>cases h
 split at h
 ·cases h
  exact ⟨by simp,fun b' hb' hl'=>by rw [List.getElem?_set_ne (by omega)]⟩
 ·cases h
  exact ⟨by simp,fun b' hb' hl'=>by rw [List.getElem?_set_ne (by omega)]⟩
 ·cases h
theorem Fi {g:Bool}{ks:List CK}{z x k v:V}(h:jI lim g ks z H x k=some (v,H')):cJ lim H H':=by
 unfold jI at h
 split at h
 case h_2=>cases h
 split at h
 case isFalse=>cases h
 rename_i hl
 split at h
 case h_2=>cases h
 split at h
 case isFalse=>cases h
 split at h
 ·cases h
  exact ⟨by simp,fun b' hb' hl'=>by rw [List.getElem?_set_ne (by omega)]⟩
 ·cases h
  exact ⟨by simp,fun b' hb' hl'=>by rw [List.getElem?_set_ne (by omega)]⟩
 ·cases h
theorem Gu {x n v:V}(h:pi lim H x n v=some H'):cJ lim H H':=by
 unfold pi at h
 split at h
 case h_2=>cases h
 split at h
 case isFalse=>cases h
 rename_i hl
 split at h
 case h_2=>cases h
 split at h
 case isFalse=>cases h
 split at h
 case h_2=>cases h
 cases h
 exact ⟨by simp,fun b' hb' hl'=>by rw [List.getElem?_set_ne (by omega)]⟩
theorem A0 {x v:V}(h:lC H x=some (v,H')):cJ lim H H':=by
 unfold lC at h
 split at h
 case h_2=>cases h
 cases h;exact .push _
theorem GV {x v:V}(h:sW lim H x=some (v,H')):cJ lim H H':=by
 unfold sW at h
 split at h
 case h_2=>cases h
 split at h
 case isFalse=>cases h
 rename_i hl
 split at h
 case h_2=>cases h
 split at h
 ·cases h
  exact ⟨by simp,fun b' hb' hl'=>by rw [List.getElem?_set_ne (by omega)]⟩
 ·cases h;exact .refl
theorem G3 {wk:Bool}{sz bytes:Nat}{x y v:V}(h:mH wk lim sz bytes H x y=some (v,H')):cJ lim H H':=by
 unfold mH at h
 split at h
 case h_2=>exact xj h
 split at h
 case h_2=>cases h
 split at h
 case isFalse=>cases h
 split at h
 case h_2=>cases h
 rename_i H2 h2
 cases h
 split at h2
 ·cases h2;exact .refl
 ·exact (iy h2).1
theorem Ga {sz bytes:Nat}{x y v:V}(h:uc sz bytes H x y=some (v,H')):cJ lim H H':=by
 unfold uc at h
 split at h
 case h_2=>cases h
 split at h
 case h_2=>cases h
 split at h
 ·cases h;exact .refl
 ·split at h
  case isFalse=>cases h
  split at h
  case isFalse=>cases h
  cases h;exact .push _
theorem Gf {sz bytes:Nat}{z:List V}{x y v:V}(h:tE sz bytes z H x y=some (v,H')):cJ lim H H':=by
 unfold tE at h
 split at h
 case h_2=>cases h
 split at h
 ·cases h;exact .refl
 ·split at h
  case isFalse=>cases h
  cases h;exact .push _
theorem NA {k:XOp}{vs:List V}{v:V}(h:evX lim H k vs=some (v,H')):cJ lim H H':=by
 unfold evX at h
 split at h
 ·cases h;exact .push _
 ·rw [(dN h).2];exact .refl
 ·rename_i x k u
  cases hq:gF lim _ _ H x k u with
  | none=>rw [hq] at h;simp [nd] at h
  | some H1=>rw [hq] at h;simp [nd] at h;rw [←h.2];exact FY hq
 ·rw [(dN h).2];exact .refl
 ·rw [(dN h).2];exact .refl
 ·rw [(dN h).2];exact .refl
 ·rw [(dN h).2];exact .refl
 ·rw [(dN h).2];exact .refl
 ·exact G3 h
 ·cases h;exact .refl
 ·exact Ga h
 ·rw [(dN h).2];exact .refl
 ·exact Gf h
 ·exact Fi h
 ·rename_i x n v
  cases hq:pi lim H x n v with
  | none=>rw [hq] at h;simp [nd] at h
  | some H1=>rw [hq] at h;simp [nd] at h;rw [←h.2];exact Gu hq
 ·rw [(dN h).2];exact .refl
 ·exact A0 h
 ·exact GV h
 ·rw [(dN h).2];exact .refl
 ·rw [(dN h).2];exact .refl
 ·rw [(dN h).2];exact .refl
 ·rw [(dN h).2];exact .refl
 ·rw [(dN h).2];exact .refl
 ·cases h
theorem LO (he:ax lim fr L H op=some (.val v L' H')):cJ lim H H'∧L.length≤L'.length∧∀i,i<L.length→target fr op≠some i→L'[i]? = L[i]? := by
 have pc:∀r,af L H r=some (.val v L' H')->L'=L/\H'=H:=by
  intro r h
  cases r<;>simp [af] at h
  exact ⟨h.2.1.symm,h.2.2.symm⟩
 have same:L'=L->H'=H->(cJ lim H H'/\L.length<=L'.length/\∀i,i<L.length->target fr op≠some i->L'[i]? = L[i]?):=by
  rintro rfl rfl;exact ⟨.refl,Nat.le_refl _,fun _ _ _=>rfl⟩
 have pushH:∀x,L'=L->H'=H++[x]->(cJ lim H H'/\L.length<=L'.length/\∀i,i<L.length->target fr op≠some i->L'[i]? = L[i]?):=by
  rintro x rfl rfl;exact ⟨.push x,Nat.le_refl _,fun _ _ _=>rfl⟩
 have pushL:∀x,L'=L++[x]->H'=H->(cJ lim H H'/\L.length<=L'.length/\∀i,i<L.length->target fr op≠some i->L'[i]? = L[i]?):=by
  rintro x rfl rfl;exact ⟨.refl,by simp,fun i hi _=>List.getElem?_append_left hi⟩
 cases op with
 | new loc z =>
   simp only [ax] at he
   split at he<;>(simp only [Option.some.injEq,VNext.val.injEq] at he;obtain ⟨_,h1,h2⟩:=he)
   ·exact pushL _ h1.symm h2.symm
   ·exact pushH _ h1.symm h2.symm
 | box loc x =>
   simp only [ax] at he
   split at he
   case isFalse=>cases he
   split at he<;>(simp only [Option.some.injEq,VNext.val.injEq] at he;obtain ⟨_,h1,h2⟩:=he)
   ·exact pushL _ h1.symm h2.symm
   ·exact pushH _ h1.symm h2.symm
 | bslice sz len z ps =>
   simp only [ax] at he
   split at he
   case h_2=>cases he
   simp only [Option.some.injEq,VNext.val.injEq] at he;obtain ⟨_,h1,h2⟩:=he
   exact pushH _ h1.symm h2.symm
 | mks sz bytes z l c =>
   simp only [ax] at he
   split at he
   case h_2=>cases he
   split at he
   case isFalse=>cases he
   simp only [Option.some.injEq,VNext.val.injEq] at he;obtain ⟨_,h1,h2⟩:=he
   exact pushH _ h1.symm h2.symm
 | bytes x =>
   simp only [ax] at he
   split at he
   case h_2=>cases he
   simp only [Option.some.injEq,VNext.val.injEq] at he;obtain ⟨_,h1,h2⟩:=he
   exact pushH _ h1.symm h2.symm
 | store sz a x =>
   simp only [ax] at he
   split at he
   case h_2=>cases he
   rename_i L1 H1 hst
   simp only [Option.some.injEq,VNext.val.injEq] at he;obtain ⟨_,rfl,rfl⟩:=he
   unfold aD at hst
   split at hst
   case isFalse=>cases hst
   split at hst
   case isFalse=>cases hst
   split at hst
   ·rename_i b off heq
    split at hst
    case h_2=>cases hst
    rename_i H2 h2
    cases hst
    exact ⟨(iy h2).1,Nat.le_refl _,fun _ _ _=>rfl⟩
   ·rename_i id off heq
    split at hst
    case h_2=>cases hst
    split at hst
    case isFalse=>cases hst
    cases hst
    refine ⟨.refl,by simp,fun i hi ht => ?_⟩
    rw [List.getElem?_set_ne (fun e=>ht (by simp [target,heq,e]))]
   ·cases hst
 | append sz bytes x y =>
   simp only [ax] at he
   split at he
   case h_2=>cases he
   rename_i v1 H1 aL
   simp only [Option.some.injEq,VNext.val.injEq] at he;obtain ⟨_,rfl,rfl⟩:=he
   refine ⟨?_,Nat.le_refl _,fun _ _ _=>rfl⟩
   unfold aP at aL
   split at aL
   case h_2=>cases aL
   split at aL
   ·split at aL
    ·cases aL;exact .refl
    ·split at aL
     case isFalse=>cases aL
     split at aL
     case isFalse=>cases aL
     cases aL;exact .push _
   ·split at aL
    case isFalse=>cases aL
    rename_i hc
    split at aL
    case h_2=>cases aL
    split at aL
    case isFalse=>cases aL
    split at aL
    case isFalse=>cases aL
    split at aL
    case isFalse=>cases aL
    cases aL
    refine ⟨by simp,fun b' hb' hl' => ?_⟩
    rw [List.getElem?_append_left (by simpa using hb'),List.getElem?_set_ne (by omega)]
   ·split at aL
    ·cases aL;exact .refl
    ·split at aL
     case isFalse=>cases aL
     split at aL
     case isFalse=>cases aL
     cases aL;exact .push _
   ·cases aL
 | copy sz d s =>
   simp only [ax] at he
   split at he
   case h_2=>cases he
   rename_i v1 H1 hc
   simp only [Option.some.injEq,VNext.val.injEq] at he;obtain ⟨_,rfl,rfl⟩:=he
   refine ⟨?_,Nat.le_refl _,fun _ _ _=>rfl⟩
   unfold sU at hc
   split at hc
   case h_2=>cases hc
   split at hc
   case h_2=>cases hc
   split at hc
   ·cases hc;exact .refl
   ·split at hc
    case h_2=>cases hc
    split at hc
    case isFalse=>cases hc
    split at hc
    case h_2=>cases hc
    rename_i H2 h2
    cases hc
    exact (iy h2).1
 | clr sz z x =>
   simp only [ax] at he
   split at he
   case h_2=>cases he
   rename_i H1 hc
   simp only [Option.some.injEq,VNext.val.injEq] at he;obtain ⟨_,rfl,rfl⟩:=he
   refine ⟨?_,Nat.le_refl _,fun _ _ _=>rfl⟩
   unfold wj at hc
   split at hc
   ·cases hc;exact .refl
   ·cases hc;exact .refl
   ·split at hc
    case isFalse=>cases hc
    split at hc
    ·cases hc;exact .refl
    ·exact (iy hc).1
   ·cases hc
 | x k args =>
   simp only [ax] at he
   split at he
   case h_2=>cases he
   rename_i v1 H1 hx
   simp only [Option.some.injEq,VNext.val.injEq] at he;obtain ⟨_,rfl,rfl⟩:=he
   exact ⟨NA hx,Nat.le_refl _,fun _ _ _=>rfl⟩
 | _ =>
   simp only [ax] at he
   first
    | exact same (pc _ he).1 (pc _ he).2
    | (cases he;done)
    | (simp only [Option.some.injEq,VNext.val.injEq] at he;exact same he.2.1.symm he.2.2.symm)
    | (split at he<;>first | (cases he;done) | (simp only [Option.some.injEq,VNext.val.injEq] at he;exact same he.2.1.symm he.2.2.symm) | (split at he<;>first | (cases he;done) | (simp only [Option.some.injEq,VNext.val.injEq] at he;exact same he.2.1.symm he.2.2.symm)))
theorem kJ {call:b8} (hc:bw call) {o:VOper} {s:St} (he:cA call lim o s=some (v,L',H')) :
 cJ lim s.H H'/\s.L.length<=L'.length/\∀i,i<s.L.length->¬(wanted s.fr o.guard=true/\target s.fr o.op=some i)->L'[i]? = s.L[i]? := by
 unfold cA at he
 split at he
 ·rename_i hw
  split at he
  ·rename_i v1 L1 H1 h1
   simp only [Option.some.injEq,Prod.mk.injEq] at he
   obtain ⟨rfl,rfl,rfl⟩:=he
   obtain ⟨h2,h3,h4⟩:=LO h1
   exact ⟨h2,h3,fun i hi ht=>h4 i hi (fun e=>ht ⟨hw,e⟩)⟩
  ·split at he
   ·rename_i v1 H1 h2
    simp only [Option.some.injEq,Prod.mk.injEq] at he
    obtain ⟨rfl,rfl,rfl⟩:=he
    exact ⟨hc _ _ _ _ _ _ h2,Nat.le_refl _,fun _ _ _=>rfl⟩
   ·cases he
  ·cases he
 ·simp only [Option.some.injEq,Prod.mk.injEq] at he
  obtain ⟨rfl,rfl,rfl⟩:=he
  exact ⟨.refl,Nat.le_refl _,fun _ _ _=>rfl⟩
end
def bC:Opd->List Nat
 | .t n=>[n]
 | .c _=>[]
def fD:Option Opd->List Nat
 | some x=>bC x
 | none=>[]
def bk:List Opd->List Nat
 | []=>[]
 | x :: xs=>bC x++bk xs
def fy:List (Nat×Nat×Opd)->List Nat
 | []=>[]
 | (_,_,x) :: xs=>bC x++fy xs
def aK:VOp->List Nat
 | .move x | .box _ x | .load _ x | .un _ x | .faddr _ x | .field _ _ x | .ext x _ | .conv _ x | .lenS x | .lenT x=>bC x
 | .pick c a b=>bC c++(bC a++bC b)
 | .new _ _ | .lenA _=>[]
 | .build _ ps | .bslice _ _ _ ps=>fy ps
 | .mks _ _ _ a x=>bC a++bC x
 | .store _ a x | .bin _ a x | .eqB _ a x | .eqA _ _ a x | .iaddrA _ _ a x | .iaddrS _ a x | .idxA _ _ _ a x | .idxT a x | .append _ _ a x | .copy _ a x | .max2 a x | .min2 a x=>bC a++bC x
 | .slA _ _ x lo hi | .slS _ x lo hi | .slT x lo hi=>bC x++(fD lo++fD hi)
 | .call _ xs=>bk xs
 | .x _ xs=>bk xs
 | .max3 x y z | .min3 x y z=>bC x++(bC y++bC z)
 | .nilc x | .clr _ _ x | .eqN _ x | .bytes x=>bC x
 | .mkf _ fs cs=>bk fs++bk cs
 | .callV x xs=>bC x++bk xs
 | .slS3 _ x lo hi mx=>bC x++(fD lo++(fD hi++bC mx))
 | .stuck=>[]
section
variable {fr fr':Fr}
theorem kz {x:Opd}(h:∀t∈bC x,fr t=fr' t):opd fr x=opd fr' x:=by
 cases x with
 | t n=>exact h n (by simp [bC])
 | c v=>rfl
theorem C9 {x:Option Opd}(h:∀t∈fD x,fr t=fr' t):dc fr x=dc fr' x:=by
 cases x with
 | none=>rfl
 | some x=>simp only [dc,kz (x:=x) h]
theorem fS:∀{xs:List Opd},(∀t∈bk xs,fr t=fr' t)->cw fr xs=cw fr' xs
 | [],_=>rfl
 | x :: xs,h=>by
   simp only [cw,kz (x:=x) fun t ht=>h t (by simp [bk,ht]),fS (xs:=xs) fun t ht=>h t (by simp [bk,ht])]
theorem lG:∀{xs:List (Nat×Nat×Opd)},(∀t∈fy xs,fr t=fr' t)->lZ fr xs=lZ fr' xs
 | [],_=>rfl
 | (o,s,x) :: xs,h=>by
   simp only [lZ,kz (x:=x) fun t ht=>h t (by simp [fy,ht]),lG (xs:=xs) fun t ht=>h t (by simp [fy,ht])]
theorem Ah {lim:Nat}{L:Lo}{H:Hp}{op:VOp}(h:∀t∈aK op,fr t=fr' t):ax lim fr L H op=ax lim fr' L H op/\aG fr op=aG fr' op/\target fr op=target fr' op:=by
 have one:∀x:Opd,(∀t∈bC x,t∈aK op)->opd fr x=opd fr' x:=fun x hx=>kz fun t ht=>h t (hx t ht)
 have oneO:∀x:Option Opd,(∀t∈fD x,t∈aK op)->dc fr x=dc fr' x:=fun x hx=>C9 fun t ht=>h t (hx t ht)
 cases op with
 | build z ps=>simp only [ax,aG,target,lG (xs:=ps) h,and_self]
 | bslice sz n z ps=>simp only [ax,aG,target,lG (xs:=ps) h,and_self]
 | mks g g2 z a x=>simp only [ax,aG,target,one a (fun t ht=>by simp [aK,ht]),one x (fun t ht=>by simp [aK,ht]),and_self]
 | call f xs=>simp only [ax,aG,target,fS (xs:=xs) h,and_self]
 | x k xs=>simp only [ax,aG,target,fS (xs:=xs) h,and_self]
 | stuck=>exact ⟨rfl,rfl,rfl⟩
 | max3 a b c=>simp only [ax,aG,target,one a (fun t ht=>by simp [aK,ht]),one b (fun t ht=>by simp [aK,ht]),one c (fun t ht=>by simp [aK,ht]),and_self]
 | min3 a b c=>simp only [ax,aG,target,one a (fun t ht=>by simp [aK,ht]),one b (fun t ht=>by simp [aK,ht]),one c (fun t ht=>by simp [aK,ht]),and_self]
 | nilc x=>simp only [ax,aG,target,one x (fun t ht=>ht),and_self]
 | eqN g x=>simp only [ax,aG,target,one x (fun t ht=>ht),and_self]
 | bytes x=>simp only [ax,aG,target,one x (fun t ht=>ht),and_self]
 | clr g z x=>simp only [ax,aG,target,one x (fun t ht=>ht),and_self]
 | mkf f fs cs=>simp only [ax,aG,target,fS (xs:=fs) (fun t ht=>h t (by simp [aK,ht])),fS (xs:=cs) (fun t ht=>h t (by simp [aK,ht])),and_self]
 | callV x xs=>simp only [ax,aG,target,one x (fun t ht=>by simp [aK,ht]),fS (xs:=xs) (fun t ht=>h t (by simp [aK,ht])),and_self]
 | slS3 sz x lo hi mx =>
   simp only [ax,aG,target,one x (fun t ht=>by simp [aK,ht]),oneO lo (fun t ht=>by simp [aK,ht]),oneO hi (fun t ht=>by simp [aK,ht]),one mx (fun t ht=>by simp [aK,ht]),and_self]
 | new loc z=>exact ⟨rfl,rfl,rfl⟩
 | lenA n=>exact ⟨rfl,rfl,rfl⟩
 | pick c a b =>
   simp only [ax,aG,target,one c (fun t ht=>by simp [aK,ht]),one a (fun t ht=>by simp [aK,ht]),one b (fun t ht=>by simp [aK,ht]),and_self]
 | slA n sz x lo hi =>
   simp only [ax,aG,target,one x (fun t ht=>by simp [aK,ht]),oneO lo (fun t ht=>by simp [aK,ht]),oneO hi (fun t ht=>by simp [aK,ht]),and_self]
 | slS sz x lo hi =>
   simp only [ax,aG,target,one x (fun t ht=>by simp [aK,ht]),oneO lo (fun t ht=>by simp [aK,ht]),oneO hi (fun t ht=>by simp [aK,ht]),and_self]
 | slT x lo hi =>
   simp only [ax,aG,target,one x (fun t ht=>by simp [aK,ht]),oneO lo (fun t ht=>by simp [aK,ht]),oneO hi (fun t ht=>by simp [aK,ht]),and_self]
 | move x=>simp only [ax,aG,target,one x (fun t ht=>ht),and_self]
 | box l x=>simp only [ax,aG,target,one x (fun t ht=>ht),and_self]
 | load g x=>simp only [ax,aG,target,one x (fun t ht=>ht),and_self]
 | un g x=>simp only [ax,aG,target,one x (fun t ht=>ht),and_self]
 | faddr g x=>simp only [ax,aG,target,one x (fun t ht=>ht),and_self]
 | field g g2 x=>simp only [ax,aG,target,one x (fun t ht=>ht),and_self]
 | ext x g=>simp only [ax,aG,target,one x (fun t ht=>ht),and_self]
 | conv g x=>simp only [ax,aG,target,one x (fun t ht=>ht),and_self]
 | lenS x=>simp only [ax,aG,target,one x (fun t ht=>ht),and_self]
 | lenT x=>simp only [ax,aG,target,one x (fun t ht=>ht),and_self]
 | store g a x=>simp only [ax,aG,target,one a (fun t ht=>by simp [aK,ht]),one x (fun t ht=>by simp [aK,ht]),and_self]
 | bin g a x=>simp only [ax,aG,target,one a (fun t ht=>by simp [aK,ht]),one x (fun t ht=>by simp [aK,ht]),and_self]
 | eqB g a x=>simp only [ax,aG,target,one a (fun t ht=>by simp [aK,ht]),one x (fun t ht=>by simp [aK,ht]),and_self]
 | eqA g g2 a x=>simp only [ax,aG,target,one a (fun t ht=>by simp [aK,ht]),one x (fun t ht=>by simp [aK,ht]),and_self]
 | iaddrA g g2 a x=>simp only [ax,aG,target,one a (fun t ht=>by simp [aK,ht]),one x (fun t ht=>by simp [aK,ht]),and_self]
 | iaddrS g a x=>simp only [ax,aG,target,one a (fun t ht=>by simp [aK,ht]),one x (fun t ht=>by simp [aK,ht]),and_self]
 | idxA g g2 g3 a x=>simp only [ax,aG,target,one a (fun t ht=>by simp [aK,ht]),one x (fun t ht=>by simp [aK,ht]),and_self]
 | idxT a x=>simp only [ax,aG,target,one a (fun t ht=>by simp [aK,ht]),one x (fun t ht=>by simp [aK,ht]),and_self]
 | append g g2 a x=>simp only [ax,aG,target,one a (fun t ht=>by simp [aK,ht]),one x (fun t ht=>by simp [aK,ht]),and_self]
 | copy g a x=>simp only [ax,aG,target,one a (fun t ht=>by simp [aK,ht]),one x (fun t ht=>by simp [aK,ht]),and_self]
 | max2 a x=>simp only [ax,aG,target,one a (fun t ht=>by simp [aK,ht]),one x (fun t ht=>by simp [aK,ht]),and_self]
 | min2 a x=>simp only [ax,aG,target,one a (fun t ht=>by simp [aK,ht]),one x (fun t ht=>by simp [aK,ht]),and_self]
end
section
variable {P:Program}{o:Oper}{vo:VOp}
theorem fX {X:Operand}{x:Opd}(h:az X=some x):∀t∈bC x,X=.tmp t:=by
 intro t ht
 cases X with
 | tmp n=>simp [az] at h;subst h;simp [bC] at ht;rw [ht]
 | const v=>simp only [az,Option.map_eq_some_iff] at h;obtain ⟨u,_,rfl⟩:=h;simp [bC] at ht
 | func f=>simp [az] at h;subst h;simp [bC] at ht
 | global g=>simp only [az,Option.map_eq_some_iff] at h;obtain ⟨u,_,rfl⟩:=h;simp [bC] at ht
theorem fI:∀{Xs:List Operand} {xs:List Opd},aU Xs=some xs->∀t∈bk xs,Operand.tmp t∈Xs
 | [],xs,h,t,ht=>by simp [aU] at h;subst h;simp [bk] at ht
 | X :: Xs,xs,h,t,ht=>by
   simp only [aU] at h
   split at h
   ·rename_i p q hp hq
    cases h
    simp only [bk,List.mem_append] at ht
    rcases ht with ht | ht
    ·rw [←fX hp t ht];simp
    ·exact List.mem_cons_of_mem _ (fI hq t ht)
   ·cases h
theorem jq {s:Nat}:∀{ps:List (Nat×Operand)} {vps:List (Nat×Nat×Opd)},jA s ps=some vps->∀t∈fy vps,Operand.tmp t∈ps.map (·.2)
 | [],xs,h,t,ht=>by simp [jA] at h;subst h;simp [fy] at ht
 | (i,X) :: Xs,xs,h,t,ht=>by
   simp only [jA] at h
   split at h
   ·rename_i p q hp hq
    cases h
    simp only [fy,List.mem_append] at ht
    rcases ht with ht | ht
    ·simp only [List.map_cons];rw [←fX hp t ht];simp
    ·exact List.mem_cons_of_mem _ (jq hq t ht)
   ·cases h
theorem mP {fields:Array Field}:∀{ps:List (Nat×Operand)} {vps:List (Nat×Nat×Opd)},kl P fields ps=some vps→∀t∈fy vps,Operand.tmp t∈ps.map (·.2)
 | [],xs,h,t,ht=>by simp [kl] at h;subst h;simp [fy] at ht
 | (i, X) :: Xs,xs,h,t,ht=>by
   simp only [kl] at h
   split at h
   ·rename_i f p q hf hp hq
    split at h
    ·cases h
     simp only [fy,List.mem_append] at ht
     rcases ht with ht | ht
     ·simp only [List.map_cons];rw [←fX hp t ht];simp
     ·exact List.mem_cons_of_mem _ (mP hq t ht)
    ·cases h
   ·cases h
theorem xJ {glob:List Nat} (h:aq P glob o=some vo):∀t∈aK vo,Operand.tmp t∈o.op.operands:=by
 have o1:∀{X:Operand} {x:Opd},az X=some x->X∈o.op.operands->∀t∈bC x,Operand.tmp t∈o.op.operands:=by
  intro X x hx hin t ht
  rw [←fX hx t ht];exact hin
 have oO:∀{X:Option Operand} {x:Option Opd},bJ X=some x->(∀Y,X=some Y->Y∈o.op.operands)->∀t∈fD x,Operand.tmp t∈o.op.operands:=by
  intro X x hx hin t ht
  cases X with
  | none=>simp [bJ] at hx;subst hx;simp [fD] at ht
  | some Y =>
    simp only [bJ,Option.map_eq_some_iff] at hx
    obtain ⟨y,hy,rfl⟩:=hx
    exact o1 hy (hin Y rfl) t ht
 intro t ht
 cases ho:o.op with
 | move X =>
   simp only [aq,ho] at h
   split at h
   ·simp only [Option.map_eq_some_iff] at h;obtain ⟨x,hx,rfl⟩:=h
    simp only [aK,bk,List.append_nil] at ht
    rw [←ho];exact o1 hx (by simp [ho,Op.operands]) t ht
   ·simp only [Option.map_eq_some_iff] at h;obtain ⟨x,hx,rfl⟩:=h
    rw [←ho];exact o1 hx (by simp [ho,Op.operands]) t ht
 | makeInterface ty X =>
   simp only [aq,ho,Option.map_eq_some_iff] at h;obtain ⟨x,hx,rfl⟩:=h
   simp only [aK,bk,List.append_nil] at ht
   rw [←ho];exact o1 hx (by simp [ho,Op.operands]) t ht
 | panic X =>
   simp only [aq,ho,Option.map_eq_some_iff] at h;obtain ⟨x,hx,rfl⟩:=h
   simp only [aK,bk,List.append_nil] at ht
   rw [←ho];exact o1 hx (by simp [ho,Op.operands]) t ht
 | assign X =>
   simp only [aq,ho,Option.map_eq_some_iff] at h;obtain ⟨x,hx,rfl⟩:=h
   rw [←ho];exact o1 hx (by simp [ho,Op.operands]) t ht
 | pick C X Y =>
   simp only [aq,ho] at h
   split at h
   case h_2=>cases h
   rename_i c x y hc hx hy
   cases h
   simp only [aK,List.mem_append] at ht
   rw [←ho]
   rcases ht with ht | ht | ht
   ·exact o1 hc (by simp [ho,Op.operands]) t ht
   ·exact o1 hx (by simp [ho,Op.operands]) t ht
   ·exact o1 hy (by simp [ho,Op.operands]) t ht
 | alloc ty =>
   simp only [aq,ho,Option.map_eq_some_iff] at h;obtain ⟨x,hx,rfl⟩:=h
   simp [aK] at ht
 | box ty X =>
   simp only [aq,ho,Option.map_eq_some_iff] at h;obtain ⟨x,hx,rfl⟩:=h
   rw [←ho];exact o1 hx (by simp [ho,Op.operands]) t ht
 | build ty parts =>
   simp only [aq,ho] at h
   split at h
   ·split at h
    ·simp only [Option.map_eq_some_iff] at h;obtain ⟨x,hx,rfl⟩:=h
     have:=mP hx t ht
     simpa [Op.operands] using this
    ·cases h
   ·split at h
    ·simp only [Option.map_eq_some_iff] at h;obtain ⟨x,hx,rfl⟩:=h
     have:=jq hx t ht
     simpa [Op.operands] using this
    ·cases h
   ·cases h
 | buildSlice ty n parts =>
   simp only [aq,ho] at h
   split at h
   ·split at h
    ·split at h
     ·cases h;simp [aK,bk] at ht
     split at h
     ·simp only [Option.map_eq_some_iff] at h;obtain ⟨x,hx,rfl⟩:=h
      have:=jq hx t ht
      simpa [Op.operands] using this
     ·cases h
    ·cases h
   ·cases h
 | makeSlice ty X Y =>
   simp only [aq,ho] at h
   split at h
   case h_2=>cases h
   rename_i e x y hu hx hy
   split at h
   case h_2=>cases h
   split at h
   case isFalse=>cases h
   cases h
   simp only [aK,List.mem_append] at ht
   rw [←ho]
   rcases ht with ht | ht
   ·exact o1 hx (by simp [ho,Op.operands]) t ht
   ·exact o1 hy (by simp [ho,Op.operands]) t ht
 | load ty X =>
   simp only [aq,ho] at h
   split at h
   case h_2=>cases h
   rename_i g x hg hx
   cases h
   rw [←ho];exact o1 hx (by simp [ho,Op.operands]) t ht
 | store ty X Y =>
   simp only [aq,ho] at h
   split at h
   case h_2=>cases h
   rename_i g x y hg hx hy
   cases h
   simp only [aK,List.mem_append] at ht
   rw [←ho]
   rcases ht with ht | ht
   ·exact o1 hx (by simp [ho,Op.operands]) t ht
   ·exact o1 hy (by simp [ho,Op.operands]) t ht
 | binOp op ty X Y ty2 =>
   simp only [aq,ho] at h
   split at h
   case h_2=>cases h
   rename_i x y hx hy
   have key:t∈bC x++bC y->Operand.tmp t∈(Op.binOp op ty X Y ty2).operands:=by
    intro ht
    rw [←ho]
    rcases List.mem_append.1 ht with ht | ht
    ·exact o1 hx (by simp [ho,Op.operands]) t ht
    ·exact o1 hy (by simp [ho,Op.operands]) t ht
   repeat' (split at h)
   all_goals (first | (cases h;done) | (cases h;exact key (by simpa only [aK] using ht)) | (cases h;exact key (List.mem_append.2 (Or.inl (by simpa only [aK] using ht)))) | (cases h;exact key (List.mem_append.2 (Or.inl (by simpa [aK,bk] using ht)))))
 | nilCheck X =>
   simp only [aq,ho,Option.map_eq_some_iff] at h;obtain ⟨x,hx,rfl⟩:=h
   rw [←ho];exact o1 hx (by simp [ho,Op.operands]) t ht
 | makeFunc fn fs cs =>
   cases fn with
   | func f =>
     simp only [aq,ho] at h
     split at h
     case h_2=>cases h
     rename_i xs ys hxs hys
     cases h
     simp only [aK,List.mem_append] at ht
     simp only [Op.operands,Array.mem_append]
     rcases ht with ht | ht
     ·exact Or.inl (by simpa using fI hxs t ht)
     ·exact Or.inr (by simpa using fI hys t ht)
   | _=>simp [aq,ho] at h
 | unOp op ty X =>
   simp only [aq,ho,Option.map_eq_some_iff] at h;obtain ⟨x,hx,rfl⟩:=h
   rw [←ho];exact o1 hx (by simp [ho,Op.operands]) t ht
 | convert s d X =>
   simp only [aq,ho] at h
   split at h
   ·rename_i k1 k x h1 h2 hx
    cases h
    rw [←ho];exact o1 hx (by simp [ho,Op.operands]) t ht
   ·rename_i e x h1 h2 hx
    split at h
    ·cases h
     rw [←ho];exact o1 hx (by simp [ho,Op.operands]) t ht
    ·cases h
   ·rename_i e x h1 h2 hx
    split at h
    ·cases h
     simp only [aK,bk,List.append_nil] at ht
     rw [←ho];exact o1 hx (by simp [ho,Op.operands]) t ht
    ·cases h
     simp only [aK,bk,List.append_nil] at ht
     rw [←ho];exact o1 hx (by simp [ho,Op.operands]) t ht
    ·cases h
   ·rename_i k x h1 h2 hx
    cases h
    simp only [aK,bk,List.append_nil] at ht
    rw [←ho];exact o1 hx (by simp [ho,Op.operands]) t ht
   ·cases h
 | slice ty X lo hi mx =>
   cases mx with
   | some Mx =>
     simp only [aq,ho] at h
     split at h
     case h_2=>cases h
     rename_i e x lo' hi' mx' hu hx hlo hhi hmx
     simp only [Option.map_eq_some_iff] at h;obtain ⟨s,_,rfl⟩:=h
     simp only [aK,List.mem_append] at ht
     rw [←ho]
     rcases ht with ht | ht | ht | ht
     ·exact o1 hx (by simp [ho,Op.operands]) t ht
     ·exact oO hlo (fun Y hY=>by subst hY;simp [ho,Op.operands]) t ht
     ·exact oO hhi (fun Y hY=>by subst hY;simp [ho,Op.operands]) t ht
     ·exact o1 hmx (by simp [ho,Op.operands]) t ht
   | none =>
     simp only [aq,ho] at h
     have key:∀{x:Opd} {lo' hi':Option Opd},az X=some x->bJ lo=some lo'->bJ hi=some hi'->t∈bC x++(fD lo'++fD hi')->Operand.tmp t∈(Op.slice ty X lo hi none).operands:=by
      intro x lo' hi' hx hlo hhi ht
      rw [←ho]
      simp only [List.mem_append] at ht
      rcases ht with ht | ht | ht
      ·exact o1 hx (by simp [ho,Op.operands]) t ht
      ·exact oO hlo (fun Y hY=>by subst hY;simp [ho,Op.operands]) t ht
      ·exact oO hhi (fun Y hY=>by subst hY;simp [ho,Op.operands]) t ht
     split at h
     ·rename_i n e x lo' hi' hu hx hlo hhi
      simp only [Option.map_eq_some_iff] at h;obtain ⟨s,_,rfl⟩:=h
      exact key hx hlo hhi ht
     ·rename_i e x lo' hi' hu hx hlo hhi
      split at h
      case h_2=>cases h
      split at h
      ·cases h
       refine key hx hlo hhi ?_
       cases lo'<;>cases hi'<;>simpa [aK,bk,LM,fD] using ht
      ·cases h
       exact key hx hlo hhi ht
     ·rename_i x lo' hi' hu hx hlo hhi
      cases h
      exact key hx hlo hhi ht
     ·cases h
 | fieldAddr ty X f =>
   simp only [aq,ho] at h
   split at h
   case h_2=>cases h
   rename_i fields x hu hx
   split at h
   case h_2=>cases h
   split at h
   case h_2=>cases h
   split at h
   case isTrue=>cases h
   cases h
   rw [←ho];exact o1 hx (by simp [ho,Op.operands]) t ht
 | field ty X f =>
   simp only [aq,ho] at h
   split at h
   case h_2=>cases h
   rename_i fields x hu hx
   split at h
   case h_2=>cases h
   simp only [Option.map_eq_some_iff] at h;obtain ⟨s,_,rfl⟩:=h
   rw [←ho];exact o1 hx (by simp [ho,Op.operands]) t ht
 | indexAddr ty X I =>
   simp only [aq,ho] at h
   have key:∀{x i:Opd},az X=some x->az I=some i->t∈bC x++bC i->Operand.tmp t∈(Op.indexAddr ty X I).operands:=by
    intro x i hx hi ht
    rw [←ho]
    rcases List.mem_append.1 ht with ht | ht
    ·exact o1 hx (by simp [ho,Op.operands]) t ht
    ·exact o1 hi (by simp [ho,Op.operands]) t ht
   split at h
   ·rename_i n e x i hu hx hi
    simp only [Option.map_eq_some_iff] at h;obtain ⟨s,_,rfl⟩:=h
    exact key hx hi ht
   ·rename_i e x i hu hx hi
    simp only [Option.map_eq_some_iff] at h;obtain ⟨s,_,rfl⟩:=h
    exact key hx hi ht
   ·cases h
 | index ty X I =>
   simp only [aq,ho] at h
   have key:∀{x i:Opd},az X=some x->az I=some i->t∈bC x++bC i->Operand.tmp t∈(Op.index ty X I).operands:=by
    intro x i hx hi ht
    rw [←ho]
    rcases List.mem_append.1 ht with ht | ht
    ·exact o1 hx (by simp [ho,Op.operands]) t ht
    ·exact o1 hi (by simp [ho,Op.operands]) t ht
   split at h
   ·rename_i n e x i hu hx hi
    split at h
    ·cases h;exact key hx hi ht
    ·cases h
   ·rename_i x i hu hx hi
    cases h;exact key hx hi ht
   ·cases h
 | extract X i =>
   simp only [aq,ho,Option.map_eq_some_iff] at h;obtain ⟨x,hx,rfl⟩:=h
   rw [←ho];exact o1 hx (by simp [ho,Op.operands]) t ht
 | call c =>
   simp only [aq,ho] at h
   have keyL:∀{xs:List Opd},aU c.args.toList=some xs->t∈bk xs->Operand.tmp t∈(Op.call c).operands:=by
    intro xs hxs ht
    have:=fI hxs t ht
    simp only [Op.operands,Call.operands,Array.mem_append]
    exact Or.inr (by simpa using this)
   cases hc:c.callee with
   | value fo =>
     rw [hc] at h
     cases fo with
     | func f =>
       simp only at h
       split at h
       case isFalse=>cases h
       simp only [Option.map_eq_some_iff] at h;obtain ⟨xs,hxs,rfl⟩:=h
       exact keyL hxs ht
     | tmp n =>
       simp only [Option.map_eq_some_iff] at h;obtain ⟨xs,hxs,rfl⟩:=h
       simp only [aK,List.mem_append] at ht
       rcases ht with ht | ht
       ·simp only [bC,List.mem_singleton] at ht
        subst ht
        simp only [Op.operands,Call.operands,hc,Array.mem_append]
        exact Or.inl (by simp)
       ·exact keyL hxs ht
     | _=>simp at h
   | invoke r m=>rw [hc] at h;simp at h
   | builtin b =>
     rw [hc] at h
     simp only at h
     unfold cd at h
     have lc:∀{x:Opd},aU c.args.toList=some [x]->t∈bC x->Operand.tmp t∈(Op.call c).operands:=fun h ht=>keyL h (by simpa [bk] using ht)
     have lc3:∀{x y z:Opd},aU c.args.toList=some [x,y,z]->t∈bC x++(bC y++bC z)->Operand.tmp t∈(Op.call c).operands:=fun h ht=>keyL h (by simpa [bk] using ht)
     have lc2:∀{x y:Opd},aU c.args.toList=some [x,y]->t∈bC x++bC y->Operand.tmp t∈(Op.call c).operands:=fun h ht=>keyL h (by simpa [bk] using ht)
     cases b with
     | len =>
       simp only at h
       split at h
       ·rename_i x t0 ts h1 h2
        split at h
        ·cases h;exact lc h1 ht
        ·cases h;exact lc h1 ht
        ·cases h;simp [aK] at ht
        ·cases h;exact lc h1 (by simpa [aK,bk] using ht)
        ·cases h
       ·cases h
     | append =>
       simp only at h
       split at h
       ·rename_i x y t0 u0 ts h1 h2
        split at h
        ·split at h
         ·split at h
          ·split at h
           ·cases h;exact lc2 h1 (by simpa [aK,bk] using ht)
           split at h
           ·cases h;exact lc2 h1 (by simpa [aK,bk] using ht)
           ·cases h;exact lc2 h1 ht
          ·cases h
         ·cases h
        ·split at h
         ·split at h
          ·cases h;exact lc2 h1 (by simpa [aK,bk] using ht)
          ·cases h
         ·cases h
        ·cases h
       ·cases h
     | cap =>
       simp only at h
       split at h
       ·rename_i x t0 ts h1 h2
        split at h
        ·split at h
         ·cases h;exact lc h1 (by simpa [aK,bk] using ht)
         ·cases h
        ·cases h
       ·cases h
     | copy =>
       simp only at h
       split at h
       ·rename_i x y t0 ts h1 h2
        split at h
        ·simp only [Option.map_eq_some_iff] at h;obtain ⟨s,_,rfl⟩:=h
         exact lc2 h1 ht
        ·cases h
       ·cases h
     | max =>
       simp only at h
       split at h
       ·rename_i x y h1
        cases h;exact lc2 h1 ht
       ·rename_i x y z h1
        cases h;exact lc3 h1 ht
       ·rename_i x y z u h1
        cases h;exact keyL h1 (by simpa [aK] using ht)
       ·cases h
     | min =>
       simp only at h
       split at h
       ·rename_i x y h1
        cases h;exact lc2 h1 ht
       ·rename_i x y z h1
        cases h;exact lc3 h1 ht
       ·cases h
     | clear =>
       simp only at h
       split at h
       ·rename_i x t0 ts h1 h2
        split at h
        case h_2=>cases h
        split at h
        case h_2=>cases h
        cases h;exact lc h1 ht
       ·cases h
     | _=>simp at h
 | makeMap ty r =>
   cases r with
   | some z=>simp [aq,ho] at h
   | none =>
     simp only [aq,ho] at h
     cases h
     simp [aK,bk] at ht
 | lookup ty X K ok =>
   simp only [aq,ho] at h
   split at h
   case h_2=>cases h
   rename_i kt e x k h0 hx hk
   split at h
   case h_2=>cases h
   cases h
   simp only [aK,bk,List.append_nil,List.mem_append] at ht
   rw [←ho]
   rcases ht with ht | ht
   ·exact o1 hx (by simp [ho,Op.operands]) t ht
   ·exact o1 hk (by simp [ho,Op.operands]) t ht
 | mapUpdate ty M K U =>
   simp only [aq,ho] at h
   split at h
   case h_2=>cases h
   rename_i kt e m k u h0 hm hk hu
   split at h
   case h_2=>cases h
   cases h
   simp only [aK,bk,List.append_nil,List.mem_append] at ht
   rw [←ho]
   rcases ht with ht | ht | ht
   ·exact o1 hm (by simp [ho,Op.operands]) t ht
   ·exact o1 hk (by simp [ho,Op.operands]) t ht
   ·exact o1 hu (by simp [ho,Op.operands]) t ht
 | mapEntry ty M K =>
   simp only [aq,ho] at h
   split at h
   case h_2=>cases h
   rename_i kt e m k h0 hm hk
   split at h
   case h_2=>cases h
   cases h
   simp only [aK,bk,List.append_nil,List.mem_append] at ht
   rw [←ho]
   rcases ht with ht | ht
   ·exact o1 hm (by simp [ho,Op.operands]) t ht
   ·exact o1 hk (by simp [ho,Op.operands]) t ht
 | range ty X =>
   simp only [aq,ho] at h
   split at h
   case h_2=>cases h
   rename_i x h0 hx
   cases h
   simp only [aK,bk,List.append_nil] at ht
   rw [←ho]
   exact o1 hx (by simp [ho,Op.operands]) t ht
 | next X b =>
   cases b with
   | false=>simp [aq,ho] at h
   | true =>
     simp only [aq,ho] at h
     split at h
     case h_2=>cases h
     rename_i x hx
     cases h
     simp only [aK,bk,List.append_nil] at ht
     rw [←ho]
     exact o1 hx (by simp [ho,Op.operands]) t ht
 | entryStore ty M N U =>
   simp only [aq,ho] at h
   split at h
   case h_2=>cases h
   rename_i m n u hm hn hu
   cases h
   simp only [aK,bk,List.append_nil,List.mem_append] at ht
   rw [←ho]
   rcases ht with ht | ht | ht
   ·exact o1 hm (by simp [ho,Op.operands]) t ht
   ·exact o1 hn (by simp [ho,Op.operands]) t ht
   ·exact o1 hu (by simp [ho,Op.operands]) t ht
 | _=>simp [aq,ho] at h
theorem Ao {glob:List Nat}(h:dz P glob o=some vo):∀t∈aK vo,Operand.tmp t∈o.op.operands:=by
 rcases iT h with h | rfl
 ·exact xJ h
 ·intro t ht;simp [aK] at ht
end
end Go.Proofs.YtgjlhdggllakbaaGreatDoor.Vm
